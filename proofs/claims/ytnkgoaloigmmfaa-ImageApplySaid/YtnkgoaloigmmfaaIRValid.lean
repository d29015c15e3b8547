/-
  The reference's Valid: the walk.
-/
import Derived.Test.YtnkgoaloigmmfaaIRVal
namespace Go.Proofs.Ytnkgoaloigmmfaa
open Go.RowKit

set_option maxRecDepth 100000 in
set_option maxHeartbeats 4000000 in
theorem rvalid_no (n L : Int) (cv : Value) (ps : List ChP) (w : World) (hc : RdCs w cv ps) (h : n < 0 ∨ L < 0 ∨ 24000 < L) :
    Calls Try.prog 25 #[.agg #[.int .i64 L, cv], .int .i64 n] w (BoolQ false w) := by
  obtain ⟨a, c, rfl⟩ := hc.len
  clear hc
  rcases (show n < 0 ∨ (0 ≤ n ∧ L < 0) ∨ (0 ≤ n ∧ 0 ≤ L ∧ 24000 < L) by omega) with h | ⟨h1, h⟩ | ⟨h1, h2, h⟩
  all_goals
    go_enter Try.func25, Try.ntmps25
    go_wp2
    go_ret
    exact ⟨rfl, gb_alloc _ _ _⟩

def RV1 (L : Nat) (cs : List CT) (k : Nat) : Prop := (∀ c ∈ cs.take k, OkC L c) ∧ (cs.take k).Pairwise (fun c d => c.1 < d.1)
theorem RV1.step {L : Nat} {cs : List CT} {k : Nat} {c : CT} (h : RV1 L cs k) (hc : cs[k]? = some c) (hok : OkC L c) (hp : ∀ d, 0 < k → cs[k - 1]? = some d → d.1 < c.1) : RV1 L cs (k + 1) := by
  unfold RV1 at h ⊢
  rw [List.take_add_one, hc]
  refine ⟨fun d hd => ?_, ?_⟩
  · rcases List.mem_append.1 hd with hd | hd
    · exact h.1 d hd
    · simp at hd; subst hd; exact hok
  · rw [List.pairwise_append]
    refine ⟨h.2, by simp, fun d hd e he => ?_⟩
    simp at he; subst he
    obtain ⟨i, hi⟩ := List.getElem?_of_mem hd
    rw [List.getElem?_take] at hi
    split at hi
    · rename_i hik
      have hlt : k - 1 < cs.length := by have := (List.getElem?_eq_some_iff.1 hc).1; omega
      have hl := hp cs[k - 1] (by omega) (List.getElem?_eq_getElem hlt)
      by_cases e : i = k - 1
      · subst e; rw [List.getElem?_eq_getElem hlt] at hi; cases hi; exact hl
      · have hpw := List.pairwise_iff_getElem.1 h.2 i (k - 1) (by rw [List.length_take]; omega) (by rw [List.length_take]; omega) (by omega)
        rw [List.getElem_take, List.getElem_take] at hpw
        have hi2 := (List.getElem?_eq_some_iff.1 hi).2
        rw [hi2] at hpw
        omega
    · cases hi
theorem rv_bad1 {n L : Nat} {cs : List CT} {k : Nat} {c : CT} (hc : cs[k]? = some c) (h : szN L c.1 = 0 ∨ c.2.length ≠ szN L c.1) : validN n L cs = false := by
  refine validN_no (fun ⟨h1, _, _⟩ => ?_)
  obtain ⟨j, e1, e2, e3⟩ := h1 c (List.mem_of_getElem? hc)
  rw [e1] at h
  rw [cnt_toNat] at e2
  rcases h with h | h
  · rw [szN_nat] at h; omega
  · exact h e3
theorem rv_bad2 {n L : Nat} {cs : List CT} {k : Nat} {c d : CT} (hc : cs[k + 1]? = some c) (hd : cs[k]? = some d) (h : c.1 ≤ d.1) : validN n L cs = false := by
  refine validN_no (fun ⟨_, h2, _⟩ => ?_)
  have hk1 := (List.getElem?_eq_some_iff.1 hc).1
  have hk := (List.getElem?_eq_some_iff.1 hd).1
  have hpw := List.pairwise_iff_getElem.1 h2 k (k + 1) hk hk1 (by omega)
  rw [(List.getElem?_eq_some_iff.1 hc).2, (List.getElem?_eq_some_iff.1 hd).2] at hpw
  omega
theorem rv_bad3 {n L : Nat} {cs : List CT} {j : Nat} (hj : j < (cntI L).toNat) (hne : szN n (j : Int) ≠ szN L (j : Int)) (h : fnd (j : Int) cs = none) : validN n L cs = false := by
  refine validN_no (fun ⟨_, _, h3⟩ => ?_)
  obtain ⟨c, hc, e⟩ := h3 j hne hj
  obtain ⟨i, hi⟩ := List.getElem?_of_mem hc
  have : ∀ (cs : List CT) (i : Nat), cs[i]? = some c → fnd (j : Int) cs ≠ none := by
    intro cs
    induction cs with
    | nil => intro i hi; simp at hi
    | cons d cs ih =>
      intro i hi
      rw [fnd]
      split
      · simp
      · rename_i hd
        cases i with
        | zero => simp at hi; subst hi; exact absurd e hd
        | succ i =>
          have := ih i (by simpa using hi)
          cases hf : fnd (j : Int) cs with
          | none => exact absurd hf this
          | some x => simp
  exact this cs i hi h

set_option maxRecDepth 100000 in
set_option maxHeartbeats 8000000 in
theorem rvalid_yes (n L : Nat) (cv : Value) (ps : List ChP) (w : World) (hc : RdCs w cv ps) (hn : (n : Int) ≤ 9223372036854775807) (hL : L ≤ 24000) (hpg : ∀ p ∈ ps, -9223372036854775808 ≤ p.1.1 ∧ p.1.1 ≤ 9223372036854775807) :
    Calls Try.prog 25 #[.agg #[.int .i64 L, cv], .int .i64 n] w (BoolQ (validN n L (ps.map (·.1))) w) := by
  have hs := hc.small
  obtain ⟨a, c, rfl⟩ := hc.len
  have hL2 : (L : Int) ≤ 24000 := by omega
  have hd1 : decide ((24000 : Int) < L) = false := by simp; omega
  obtain ⟨N, hN⟩ := Int.eq_ofNat_of_zero_le (cntI_nonneg (L : Int))
  have hN2 : N ≤ L := by have := cntI_le (L : Int) (by omega); omega
  have HC := Lib.hid (fun W => rcount_any L W (by omega) (by omega))
  rw [hN] at HC
  have HN := Lib.hid hN
  have HCS := Lib.hid hc
  have HPG := Lib.hid hpg
  obtain ⟨w0, hw0⟩ : ∃ w0, w.alloc (Obj.cells #[.int .i64 L, .slice a ps.length c] 35) = w0 := ⟨_, rfl⟩
  have HW0 := Lib.hid hw0
  have hb0 := heap_at_alloc w (Obj.cells #[.int .i64 L, .slice a ps.length c] 35)
  rw [hw0] at hb0
  have HB0 := Lib.hid hb0
  have HG0 : Hid (w.grownBy w0 none) := Lib.hid (by rw [← hw0]; exact gb_alloc _ _ _)
  have HSZ := Lib.hid (fun (k : Int) W (h1 : -9223372036854775808 ≤ k) (h2 : k ≤ 9223372036854775807) => rsize_any L k W (by omega) h1 h2)
  have HSN := Lib.hid (fun (k : Int) W (h1 : -9223372036854775808 ≤ k) (h2 : k ≤ 9223372036854775807) => rsize_any n k W hn h1 h2)
  clear hc hN hw0 hb0 hL hpg
  go_enter Try.func25, Try.ntmps25
  go_wp2
  rw [HW0.out]
  go_loopw [5] (fun i wr => ∃ k : Nat, k ≤ ps.length ∧ i = .int .i64 k ∧ Hid (RV1 L (ps.map (·.1)) k) ∧ Hid (w0.grownBy wr none)) (fun i _ => ps.length - (intOf i).toNat)
  case atStart => exact ⟨0, Nat.zero_le _, rfl, Lib.hid ⟨by simp, by simp⟩, Lib.hid (gb_refl _ _)⟩
  case round =>
    obtain ⟨k, hk, rfl, HV, HG⟩ := hrel
    have c0 : wr.cell? ⟨w.heap.size, 0, none⟩ = some (.int .i64 L) := cell_row (blk_kept HB0.out HG.out)
    have c1 : wr.cell? ⟨w.heap.size, 1, none⟩ = some (.slice a ps.length c) := cell_row (blk_kept HB0.out HG.out)
    by_cases hlt : k < ps.length
    · obtain ⟨p, hp⟩ : ∃ p, ps[k]? = some p := ⟨ps[k], by simp [hlt]⟩
      obtain ⟨b, off, rfl, q0, q1⟩ := HCS.out.at hp
      have hgw := gb_same HG0.out HG.out
      obtain ⟨ad, cd, e1⟩ := (HCS.out.2 p (List.mem_of_getElem? hp)).len
      have hsmd := (HCS.out.2 p (List.mem_of_getElem? hp)).small
      rw [e1] at q1
      have r0 := hgw.cell q0 (by simp)
      have r1 := hgw.cell q1 (by simp)
      have hpr := HPG.out p (List.mem_of_getElem? hp)
      have hp1 : (ps.map (·.1))[k]? = some p.1 := by rw [List.getElem?_map, hp]; rfl
      have HP := Lib.hid hp1
      have HSP := Lib.hid (fun W => HSZ.out p.1.1 W hpr.1 hpr.2)
      have HB1 := Lib.hid (rv_bad1 (n := n) (L := L) HP.out)
      clear q0 q1 hgw e1 hp hp1 hpr
      obtain ⟨⟨pk, pd⟩, pv⟩ := p
      simp only at *
      obtain ⟨W1, hW1⟩ : ∃ W1, wr.alloc (Obj.cells #[.int .i64 pk, .slice ad pd.length cd] 65) = W1 := ⟨_, rfl⟩
      have hgr : wr.grownBy W1 none := by rw [← hW1]; exact gb_alloc _ _ _
      have hbr : W1.heap[wr.heap.size]? = some (Obj.cells #[.int .i64 pk, .slice ad pd.length cd] 65 (0, 0)) := by rw [← hW1]; exact heap_at_alloc _ _
      have f0 : W1.cell? ⟨wr.heap.size, 0, none⟩ = some (.int .i64 pk) := cell_row hbr
      have f1 : W1.cell? ⟨wr.heap.size, 1, none⟩ = some (.slice ad pd.length cd) := cell_row hbr
      have e0 := hgr.cell c0 (by simp)
      have e1 := hgr.cell c1 (by simp)
      have HHG : Hid (∀ n, w0.grownBy (W1.drewN n) none) := Lib.hid (fun n => gb_same (gb_same HG.out hgr) (gb_drewN _ _ _))
      have HGR := Lib.hid hgr
      have HW1 := Lib.hid hW1
      clear hW1 hgr hbr
      by_cases h0 : szN L pk = 0
      · have HF := Lib.hid (HB1.out (.inl h0))
        rw [h0] at HSP
        clear h0
        go_wp2
        rw [HW1.out]
        go_quiet ((go_at_call 31; with_reducible exact quiet_mine (HSP.out _)))
        go_wp2
        go_ret
        exact ⟨by rw [HF.out]; rfl, gb_same HG0.out (HHG.out _)⟩
      · have hz0 : ((szN L pk : Int) == 0) = false := by rw [beq_eq_false_iff_ne]; omega
        by_cases h1 : pd.length = szN L pk
        · have hl1 : ((pd.length : Int) != (szN L pk : Int)) = false := by rw [h1]; simp
          have hok : OkC L (pk, pd) := by
            have hk0 : ¬ (pk < 0 ∨ cntI L ≤ pk) := fun h => h0 (szN_zero h)
            obtain ⟨m, rfl⟩ := Int.eq_ofNat_of_zero_le (show 0 ≤ pk by omega)
            exact ⟨m, rfl, by omega, h1⟩
          have HOK := Lib.hid hok
          clear hok HB1
          by_cases hk0 : k = 0
          · have HV2 : Hid (RV1 L (ps.map (·.1)) (k + 1)) := Lib.hid (HV.out.step HP.out HOK.out (fun d hd => by omega))
            have hkd : decide ((0 : Int) < k) = false := by simp; omega
            have hkdn : decide (0 < k) = false := by simp; omega
            have HLN := Lib.hid h1
            generalize (szN L pk : Int) = z at *
            clear h0 h1 hk0
            go_wp2
            rw [HW1.out]
            go_quiet ((go_at_call 31; with_reducible exact quiet_mine (HSP.out _)))
            go_wp2
            exact ⟨⟨k + 1, by omega, by go_num, HV2, Lib.hid (HHG.out _)⟩, by simp [intOf]; omega⟩
          · obtain ⟨q, hq⟩ : ∃ q, ps[k - 1]? = some q := ⟨ps[k - 1]'(by omega), by rw [List.getElem?_eq_getElem]⟩
            obtain ⟨b', off', eqa, s0, _⟩ := HCS.out.at hq
            cases eqa
            have hgw := gb_same HG0.out (gb_same HG.out HGR.out)
            have r2 := hgw.cell s0 (by simp)
            have hq1 : (ps.map (·.1))[k - 1]? = some q.1 := by rw [List.getElem?_map, hq]; rfl
            have hkd : decide ((0 : Int) < k) = true := by simp; omega
            have hkdn : decide (0 < k) = true := by simp; omega
            have hks : IntKind.i64.wrap ((k : Int) - 1) = (k : Int) - 1 := IntWalk.i64_in _ (by omega)
            have hks2 : ((k : Int) - 1).toNat = k - 1 := by omega
            have hks3 : 0 ≤ (k : Int) - 1 := by omega
            have hks4 : (k : Int) - 1 < ps.length := by omega
            have hk1 : k - 1 + 1 = k := by omega
            have HK1 := Lib.hid hk1
            clear hk1
            have HQ := Lib.hid hq1
            clear s0 hgw hq hq1
            obtain ⟨⟨qk, qd⟩, qv⟩ := q
            simp only at *
            by_cases h2 : pk ≤ qk
            · have HF := Lib.hid (rv_bad2 (n := n) (L := L) (by rw [HK1.out]; exact HP.out) HQ.out h2)
              have hd2 : decide (pk ≤ qk) = true := by simpa using h2
              generalize (szN L pk : Int) = z at *
              clear h0 h1 h2 hk0
              go_wp2
              rw [HW1.out]
              go_quiet ((go_at_call 31; with_reducible exact quiet_mine (HSP.out _)))
              go_wp2
              go_ret
              exact ⟨by rw [HF.out]; rfl, gb_same HG0.out (HHG.out _)⟩
            · have HV2 : Hid (RV1 L (ps.map (·.1)) (k + 1)) := Lib.hid (HV.out.step HP.out HOK.out (fun d hd hdd => by
                have hdd2 : (ps.map (·.1))[k - 1]? = some d := hdd
                rw [HQ.out] at hdd2; cases hdd2; simp only; omega))
              have hd2 : decide (pk ≤ qk) = false := by simp; omega
              generalize (szN L pk : Int) = z at *
              clear h0 h1 h2 hk0
              go_wp2
              rw [HW1.out]
              go_quiet ((go_at_call 31; with_reducible exact quiet_mine (HSP.out _)))
              go_wp2
              exact ⟨⟨k + 1, by omega, by go_num, HV2, Lib.hid (HHG.out _)⟩, by simp [intOf]; omega⟩
        · have hl1 : ((pd.length : Int) != (szN L pk : Int)) = true := by rw [bne_iff_ne]; omega
          have HF := Lib.hid (HB1.out (.inr h1))
          generalize (szN L pk : Int) = z at *
          clear h0 h1
          go_wp2
          rw [HW1.out]
          go_quiet ((go_at_call 31; with_reducible exact quiet_mine (HSP.out _)))
          go_wp2
          go_ret
          exact ⟨by rw [HF.out]; rfl, gb_same HG0.out (HHG.out _)⟩
    · obtain rfl : k = ps.length := by omega
      have hv := HV.out
      unfold RV1 at hv
      rw [List.take_of_length_le (by simp)] at hv
      have HV2 := Lib.hid hv
      clear hv HV
      go_wp2
      go_loopw [7] (fun i wr => ∃ j : Nat, j ≤ N ∧ i = .int .i64 j ∧ Hid (∀ m : Nat, m < j → szN n (m : Int) ≠ szN L (m : Int) → ∃ c ∈ ps.map (·.1), c.1 = (m : Int)) ∧ Hid (w0.grownBy wr none)) (fun i _ => N - (intOf i).toNat)
      case atStart => exact ⟨0, Nat.zero_le _, rfl, Lib.hid (fun m hm => by omega), HG⟩
      case round =>
        obtain ⟨j, hj, rfl, HJ, HX⟩ := hrel
        have d0 : wr.cell? ⟨w.heap.size, 0, none⟩ = some (.int .i64 L) := cell_row (blk_kept HB0.out HX.out)
        have d1 : wr.cell? ⟨w.heap.size, 1, none⟩ = some (.slice a ps.length c) := cell_row (blk_kept HB0.out HX.out)
        by_cases hlt : j < N
        · have HS1 := Lib.hid (fun W => HSN.out (j : Int) W (by omega) (by omega))
          have HS2 := Lib.hid (fun W => HSZ.out (j : Int) W (by omega) (by omega))
          have HFI := Lib.hid (fun m => rfind_any (.slice a ps.length c) ps (j : Int) (wr.drewN m) (HCS.out.grown (gb_same (gb_same HG0.out HX.out) (gb_drewN _ _ _))))
          have hjN : j < (cntI (L : Int)).toNat := by rw [HN.out]; simpa using hlt
          by_cases he : szN n (j : Int) = szN L (j : Int)
          · have HJ2 : Hid (∀ m : Nat, m < j + 1 → szN n (m : Int) ≠ szN L (m : Int) → ∃ c ∈ ps.map (·.1), c.1 = (m : Int)) := Lib.hid (fun m hm hne => by
              by_cases e : m = j
              · subst e; exact absurd he hne
              · exact HJ.out m (by omega) hne)
            rw [he] at HS1
            clear he hjN
            generalize (szN L (j : Int) : Int) = z at *
            go_wp2_with (go_at_call 14; refine (HC.out _).mono ?_; rintro e w' ⟨rfl, rfl⟩)
            go_quiet ((first | (go_at_call 31; first | (with_reducible exact quiet_mine (HS1.out _)) | (with_reducible exact quiet_mine (HS2.out _))) | (go_at_call 34; with_reducible exact quiet_mine (HFI.out _))))
            go_wp2
            exact ⟨⟨j + 1, by omega, by go_num, HJ2, Lib.hid (gb_same HX.out (gb_drewN _ _ _))⟩, by simp [intOf]; omega⟩
          · have hb1 : ((szN n (j : Int) : Int) == (szN L (j : Int) : Int)) = false := by rw [beq_eq_false_iff_ne]; omega
            have hb2 : ((szN n (j : Int) : Int) != (szN L (j : Int) : Int)) = true := by rw [bne, hb1]; rfl
            cases hf : fnd (j : Int) (ps.map (·.1)) with
            | none =>
              have HF := Lib.hid (rv_bad3 hjN he hf)
              have hfi : findI (j : Int) (ps.map (·.1)) = -1 := by unfold findI; rw [hf]
              rw [hfi] at HFI
              clear he hf hfi hjN
              generalize (szN L (j : Int) : Int) = z at *
              generalize (szN n (j : Int) : Int) = y at *
              go_wp2_with (go_at_call 14; refine (HC.out _).mono ?_; rintro e w' ⟨rfl, rfl⟩)
              go_quiet ((first | (go_at_call 31; first | (with_reducible exact quiet_mine (HS1.out _)) | (with_reducible exact quiet_mine (HS2.out _))) | (go_at_call 34; with_reducible exact quiet_mine (HFI.out _))))
              go_wp2
              go_ret
              exact ⟨by rw [HF.out]; rfl, gb_same HG0.out (gb_same HX.out (gb_drewN _ _ _))⟩
            | some i =>
              have hfi : findI (j : Int) (ps.map (·.1)) = (i : Int) := by unfold findI; rw [hf]
              rw [hfi] at HFI
              obtain ⟨c', hc', hcj⟩ := fnd_spec hf
              have HJ2 : Hid (∀ m : Nat, m < j + 1 → szN n (m : Int) ≠ szN L (m : Int) → ∃ c ∈ ps.map (·.1), c.1 = (m : Int)) := Lib.hid (fun m hm hne => by
                by_cases e : m = j
                · subst e; exact ⟨c', List.mem_of_getElem? hc', hcj⟩
                · exact HJ.out m (by omega) hne)
              have hdi : decide ((i : Int) < 0) = false := by simp
              clear he hf hfi hjN hc' hcj
              generalize (szN L (j : Int) : Int) = z at *
              generalize (szN n (j : Int) : Int) = y at *
              go_wp2_with (go_at_call 14; refine (HC.out _).mono ?_; rintro e w' ⟨rfl, rfl⟩)
              go_quiet ((first | (go_at_call 31; first | (with_reducible exact quiet_mine (HS1.out _)) | (with_reducible exact quiet_mine (HS2.out _))) | (go_at_call 34; with_reducible exact quiet_mine (HFI.out _))))
              go_wp2
              exact ⟨⟨j + 1, by omega, by go_num, HJ2, Lib.hid (gb_same HX.out (gb_drewN _ _ _))⟩, by simp [intOf]; omega⟩
        · obtain rfl : j = N := by omega
          have HF : Hid (validN n L (ps.map (·.1)) = true) := Lib.hid (validN_of HV2.out.1 HV2.out.2 (fun m hm hne => HJ.out m (by rw [HN.out] at hm; simpa using hm) hne))
          go_wp2_with (go_at_call 14; refine (HC.out _).mono ?_; rintro e w' ⟨rfl, rfl⟩)
          go_ret
          exact ⟨by rw [HF.out]; rfl, gb_same HG0.out HX.out⟩

theorem rvalid_any (n L : Int) (cv : Value) (ps : List ChP) (w : World) (hc : RdCs w cv ps) (hn : n ≤ 9223372036854775807) (hpg : ∀ p ∈ ps, -9223372036854775808 ≤ p.1.1 ∧ p.1.1 ≤ 9223372036854775807) :
    Calls Try.prog 25 #[.agg #[.int .i64 L, cv], .int .i64 n] w (BoolQ (validB n L (ps.map (·.1))) w) := by
  by_cases h : n < 0 ∨ L < 0 ∨ 24000 < L
  · rw [valid_neg h]; exact rvalid_no n L cv ps w hc h
  · obtain ⟨m, rfl⟩ := Int.eq_ofNat_of_zero_le (show 0 ≤ n by omega)
    obtain ⟨M, rfl⟩ := Int.eq_ofNat_of_zero_le (show 0 ≤ L by omega)
    have e : validB (m : Int) (M : Int) (ps.map (·.1)) = validN m M (ps.map (·.1)) := by
      unfold validB
      rw [decide_eq_true (by omega), Bool.true_and, Int.toNat_natCast, Int.toNat_natCast]
    rw [e]; exact rvalid_yes m M cv ps w hc hn (by omega) hpg
end Go.Proofs.Ytnkgoaloigmmfaa
