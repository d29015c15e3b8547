/-
  image.Valid: the walk.
-/
import Derived.Test.YtnkgoaloigmmfaaIMath
import Derived.Deep.RegionWith
namespace Go.Proofs.Ytnkgoaloigmmfaa
open Go.RowKit

/-- what a page leaves of the changes, if it is as it must be -/
def vst (n L k : Nat) (rest : List CT) : Option (List CT) :=
  match rest with
  | [] => if szN n k = szN L k then some [] else none
  | c :: cs => if c.1 = k then (if c.2.length = szN L k then some cs else none) else if szN n k = szN L k then some (c :: cs) else none
def vgo (n L : Nat) (cs : List CT) (k : Nat) : Option (List CT) := (List.range k).foldlM (fun rest k => vst n L k rest) cs
theorem vgo_succ (n L : Nat) (cs : List CT) (k : Nat) : vgo n L cs (k + 1) = (vgo n L cs k).bind (vst n L k) := by
  unfold vgo
  rw [List.range_succ, List.foldlM_append]
  simp
theorem vgo_none (n L : Nat) (cs : List CT) (k : Nat) (h : vgo n L cs k = none) : ∀ j, vgo n L cs (k + j) = none
  | 0 => h
  | j + 1 => by rw [← Nat.add_assoc, vgo_succ, vgo_none n L cs k h j]; rfl
def validN (n L : Nat) (cs : List CT) : Bool := match vgo n L cs (cntI L).toNat with | some [] => true | _ => false
def validB (n L : Int) (cs : List CT) : Bool := decide (0 ≤ n ∧ 0 ≤ L ∧ L ≤ 24000) && validN n.toNat L.toNat cs
theorem valid_fail {n L : Nat} {cs : List CT} {k : Nat} (hk : k < (cntI L).toNat) {cs' : List CT} (h : vgo n L cs k = some cs') (hf : vst n L k cs' = none) : validN n L cs = false := by
  unfold validN
  have h1 : vgo n L cs (k + 1) = none := by rw [vgo_succ, h]; exact hf
  obtain ⟨j, hj⟩ := Nat.exists_eq_add_of_le (show k + 1 ≤ (cntI L).toNat by omega)
  rw [hj, vgo_none _ _ _ _ h1]

/-- the changes behind the first one -/
theorem RdCs.tail {w : World} {b off n c : Nat} {p : ChP} {ps : List ChP} (h : RdCs w (.slice (some ⟨b, off, none⟩) n c) (p :: ps)) : n = ps.length + 1 ∧ ps.length + 1 ≤ c ∧ c ≤ maxLen ∧ RdCs w (.slice (some ⟨b, off + 2, none⟩) ps.length (c - 1)) ps ∧ (c = 1 → RdCs w (.slice (some ⟨b, off, none⟩) ps.length (c - 1)) ps) := by
  obtain ⟨h0, h9⟩ := h
  rcases h0 with ⟨_, h⟩ | ⟨b', off', cap', e, h1, h2, h3⟩
  · cases h
  · cases e
    simp only [List.length_cons] at h1 ⊢
    refine ⟨trivial, h1, h2, ⟨.inr ⟨b, off + 2, c - 1, rfl, by omega, by omega, fun j x hj => ?_⟩, fun q hq => h9 q (by simp [hq])⟩, fun hc => ⟨.inr ⟨b, off, c - 1, rfl, by omega, by omega, fun j x hj => ?_⟩, fun q hq => h9 q (by simp [hq])⟩⟩
    · rw [Nat.add_assoc, Nat.add_comm 2 j, ← Nat.add_assoc]
      have := h3 (j + 2) x hj
      rwa [← Nat.add_assoc] at this
    · exfalso
      have h4 : ps.length = 0 := by omega
      have h5 := cellsC_len ps
      rw [h4] at h5
      rw [List.getElem?_eq_none (by omega)] at hj
      cases hj
theorem quiet_mine {P : Program} {f : FuncId} {args : Array Value} {w : World} {n : Nat} {v : Value}
    (h : Calls P f args (w.drewN n) fun e w' => e = .returned v ∧ w.drewN n = w') : Calls P f args (w.drewN n) fun e w'' => e = .returned v ∧ ∃ m, w'' = w.drewN m :=
  h.mono fun _ _ ⟨he, hm⟩ => ⟨he, n, hm.symm⟩
theorem valid_neg {n L : Int} {cs : List CT} (h : n < 0 ∨ L < 0 ∨ 24000 < L) : validB n L cs = false := by
  unfold validB
  rw [decide_eq_false (by omega)]; rfl

set_option maxRecDepth 100000 in
set_option maxHeartbeats 4000000 in
theorem valid_no (n L : Int) (cv : Value) (ps : List ChP) (w : World) (hc : RdCs w cv ps) (h : n < 0 ∨ L < 0 ∨ 24000 < L) :
    Calls Try.prog 24 #[.agg #[.int .i64 L, cv], .int .i64 n] w (BoolQ false w) := by
  obtain ⟨a, c, rfl⟩ := hc.len
  clear hc
  rcases (show n < 0 ∨ (0 ≤ n ∧ L < 0) ∨ (0 ≤ n ∧ 0 ≤ L ∧ 24000 < L) by omega) with h | ⟨h1, h⟩ | ⟨h1, h2, h⟩
  all_goals
    go_enter Try.func24, Try.ntmps24
    go_wp2
    go_ret
    exact ⟨rfl, gb_alloc _ _ _⟩

set_option maxRecDepth 100000 in
set_option maxHeartbeats 4000000 in
theorem valid_yes (n L : Nat) (cv : Value) (ps : List ChP) (w : World) (hc : RdCs w cv ps) (hn : (n : Int) ≤ 9223372036854775807) (hL : L ≤ 24000) :
    Calls Try.prog 24 #[.agg #[.int .i64 L, cv], .int .i64 n] w (BoolQ (validN n L (ps.map (·.1))) w) := by
  obtain ⟨a, c, rfl⟩ := hc.len
  have hL2 : (L : Int) ≤ 24000 := by omega
  have hd1 : decide ((24000 : Int) < L) = false := by simp; omega
  have HL := Lib.hid hL
  obtain ⟨N, hN⟩ := Int.eq_ofNat_of_zero_le (cntI_nonneg (L : Int))
  have hN2 : N ≤ L := by have := cntI_le (L : Int) (by omega); omega
  have HC := Lib.hid (fun W => count_any L W (by omega) (by omega))
  rw [hN] at HC
  have HN := Lib.hid hN
  have HCS := Lib.hid hc
  obtain ⟨w0, hw0⟩ : ∃ w0, w.alloc (Obj.cells #[.int .i64 L, .slice a ps.length c] 29) = w0 := ⟨_, rfl⟩
  have HW0 := Lib.hid hw0
  have hb0 := heap_at_alloc w (Obj.cells #[.int .i64 L, .slice a ps.length c] 29)
  rw [hw0] at hb0
  have HB0 := Lib.hid hb0
  have HG0 : Hid (w.grownBy w0 none) := Lib.hid (by rw [← hw0]; exact gb_alloc _ _ _)
  clear hc hN hw0 hb0 hL
  go_enter Try.func24, Try.ntmps24
  go_wp2_with (go_at_call 12; refine (HC.out _).mono ?_; rintro e w' ⟨rfl, rfl⟩)
  rw [HW0.out]
  go_loopw [5, 24] (fun r i wr => ∃ (k : Nat) (qs : List ChP) (ar : Option Addr) (cr : Nat), k ≤ N ∧ i = .int .i64 k ∧ r = .slice ar qs.length cr ∧ Hid (RdCs w (.slice ar qs.length cr) qs) ∧ Hid (vgo n L (ps.map (·.1)) k = some (qs.map (·.1))) ∧ Hid (w0.grownBy wr none)) (fun _ i _ => N - (intOf i).toNat)
  case atStart => exact ⟨0, ps, a, c, Nat.zero_le _, rfl, rfl, HCS, Lib.hid rfl, Lib.hid (gb_refl _ _)⟩
  case round =>
    obtain ⟨k, qs, ar, cr, hk, rfl, rfl, HR, HV, HG⟩ := hrel
    have c0 : wr.cell? ⟨w.heap.size, 0, none⟩ = some (.int .i64 L) := cell_row (blk_kept HB0.out HG.out)
    by_cases hlt : k < N
    · have HSL := Lib.hid (fun W => size_any L k W (by omega) (by omega) (by omega))
      have HSN := Lib.hid (fun W => size_any n k W hn (by omega) (by omega))
      have hkN : k < (cntI (L : Int)).toNat := by rw [HN.out]; simpa using hlt
      have HFAIL : Hid (vst n L k (qs.map (·.1)) = none → validN n L (ps.map (·.1)) = false) := Lib.hid (fun h => valid_fail hkN HV.out h)
      have HNEXT : Hid (∀ r, vst n L k (qs.map (·.1)) = some r → vgo n L (ps.map (·.1)) (k + 1) = some r) := Lib.hid (fun r h => by rw [vgo_succ, HV.out]; exact h)
      clear hkN
      cases qs with
      | nil =>
        by_cases he : szN n k = szN L k
        · have HE1 : Hid (vgo n L (ps.map (·.1)) (k + 1) = some []) := Lib.hid (HNEXT.out _ (by simp [vst, he]))
          rw [he] at HSN
          clear he HFAIL HNEXT
          go_wp2
          go_quiet ((go_at_call 35; first | (with_reducible exact quiet_mine (HSN.out _)) | (with_reducible exact quiet_mine (HSL.out _))))
          go_wp2
          go_roundw
          case rel => exact ⟨k + 1, [], ar, cr, by omega, by go_num, rfl, HR, HE1, Lib.hid (gb_same HG.out (gb_drewN _ _ _))⟩
          case measure => simp [intOf]; omega
        · have HE1 := Lib.hid (HFAIL.out (by simp [vst, he]))
          have hd : ((szN n k : Int) == (szN L k : Int)) = false := by rw [beq_eq_false_iff_ne]; omega
          have hd2 : ((szN n k : Int) != (szN L k : Int)) = true := by rw [bne, hd]; rfl
          generalize (szN n k : Int) = z1 at *
          generalize (szN L k : Int) = z2 at *
          clear he HFAIL HNEXT
          go_wp2
          go_quiet ((go_at_call 35; first | (with_reducible exact quiet_mine (HSN.out _)) | (with_reducible exact quiet_mine (HSL.out _))))
          go_wp2
          go_ret
          exact ⟨by rw [HE1.out]; rfl, gb_same HG0.out (gb_same HG.out (gb_drewN _ _ _))⟩
      | cons p qs =>
        obtain ⟨b, off, rfl, q0, q1⟩ := HR.out.at (i := 0) rfl
        simp only [Nat.zero_mul, Nat.add_zero] at q0 q1
        obtain ⟨ad, cd, hp2⟩ := (HR.out.2 p (by simp)).len
        have hg9 := gb_same HG0.out HG.out
        rw [hp2] at q1
        have r0 := hg9.cell q0 (by simp)
        have r1 := hg9.cell q1 (by simp)
        obtain ⟨h1, h2, h3, HT, HT1⟩ := HR.out.tail
        have hsmd := (HR.out.2 p (by simp)).small
        have HT := Lib.hid HT
        have HT1 := Lib.hid HT1
        unfold maxLen at h3
        clear q0 q1 hg9 h1 hp2
        obtain ⟨⟨pk, pd⟩, dv⟩ := p
        simp only [List.map_cons, List.length_cons] at *
        by_cases hpk : pk = k
        · have hd0 : (pk == (k : Int)) = true := by simpa using hpk
          by_cases he : pd.length = szN L k
          · have HE1 : Hid (vgo n L (ps.map (·.1)) (k + 1) = some (qs.map (·.1))) := Lib.hid (HNEXT.out _ (by simp [vst, hpk, he]))
            have hd1 : ((pd.length : Int) != (szN L k : Int)) = false := by rw [he]; simp
            generalize (szN L k : Int) = z2 at *
            clear he hpk HFAIL HNEXT
            by_cases hcr : cr = 1
            · subst hcr
              have hq : qs = [] := List.eq_nil_of_length_eq_zero (by omega)
              subst hq
              go_wp2
              go_quiet ((go_at_call 35; first | (with_reducible exact quiet_mine (HSN.out _)) | (with_reducible exact quiet_mine (HSL.out _))))
              go_wp2
              go_roundw
              case rel => exact ⟨k + 1, [], _, _, by omega, by go_num, rfl, Lib.hid (HT1.out trivial), HE1, Lib.hid (gb_same HG.out (gb_drewN _ _ _))⟩
              case measure => simp [intOf]; omega
            · have h12 : 1 < cr := by omega
              have h13 : ¬ 1 = cr := by omega
              clear hcr
              go_wp2
              go_quiet ((go_at_call 35; first | (with_reducible exact quiet_mine (HSN.out _)) | (with_reducible exact quiet_mine (HSL.out _))))
              go_wp2
              go_roundw
              case rel => exact ⟨k + 1, qs, _, _, by omega, by go_num, rfl, HT, HE1, Lib.hid (gb_same HG.out (gb_drewN _ _ _))⟩
              case measure => simp [intOf]; omega
          · have HE1 := Lib.hid (HFAIL.out (by simp [vst, hpk, he]))
            have hd1 : ((pd.length : Int) != (szN L k : Int)) = true := by rw [bne_iff_ne]; omega
            generalize (szN L k : Int) = z2 at *
            clear he hpk HFAIL HNEXT
            go_wp2
            go_quiet ((go_at_call 35; first | (with_reducible exact quiet_mine (HSN.out _)) | (with_reducible exact quiet_mine (HSL.out _))))
            go_wp2
            go_ret
            exact ⟨by rw [HE1.out]; rfl, gb_same HG0.out (gb_same HG.out (gb_drewN _ _ _))⟩
        · have hd0 : (pk == (k : Int)) = false := by simpa using hpk
          by_cases he : szN n k = szN L k
          · have HE1 : Hid (vgo n L (ps.map (·.1)) (k + 1) = some ((pk, pd) :: qs.map (·.1))) := Lib.hid (HNEXT.out _ (by simp [vst, hpk, he]))
            rw [he] at HSN
            clear he hpk HFAIL HNEXT
            go_wp2
            go_quiet ((go_at_call 35; first | (with_reducible exact quiet_mine (HSN.out _)) | (with_reducible exact quiet_mine (HSL.out _))))
            go_wp2
            go_roundw
            case rel => exact ⟨k + 1, ((pk, pd), dv) :: qs, _, _, by omega, by go_num, rfl, HR, HE1, Lib.hid (gb_same HG.out (gb_drewN _ _ _))⟩
            case measure => simp [intOf]; omega
          · have HE1 := Lib.hid (HFAIL.out (by simp [vst, hpk, he]))
            have hd : ((szN n k : Int) == (szN L k : Int)) = false := by rw [beq_eq_false_iff_ne]; omega
            have hd2 : ((szN n k : Int) != (szN L k : Int)) = true := by rw [bne, hd]; rfl
            generalize (szN n k : Int) = z1 at *
            generalize (szN L k : Int) = z2 at *
            clear he hpk HFAIL HNEXT
            go_wp2
            go_quiet ((go_at_call 35; first | (with_reducible exact quiet_mine (HSN.out _)) | (with_reducible exact quiet_mine (HSL.out _))))
            go_wp2
            go_ret
            exact ⟨by rw [HE1.out]; rfl, gb_same HG0.out (gb_same HG.out (gb_drewN _ _ _))⟩
    · obtain rfl : k = N := by omega
      have HE1 : Hid (validN n L (ps.map (·.1)) = decide (qs.length = 0)) := Lib.hid (by unfold validN; rw [HN.out, Int.toNat_natCast, HV.out]; cases qs <;> simp)
      go_wp2
      go_ret
      refine ⟨?_, gb_same HG0.out HG.out⟩
      rw [HE1.out]
      exact congrArg (fun z => Ending.returned (.bool z)) (by rw [Bool.eq_iff_iff]; simp)

theorem valid_any (n L : Int) (cv : Value) (ps : List ChP) (w : World) (hc : RdCs w cv ps) (hn : n ≤ 9223372036854775807) :
    Calls Try.prog 24 #[.agg #[.int .i64 L, cv], .int .i64 n] w (BoolQ (validB n L (ps.map (·.1))) w) := by
  by_cases h : n < 0 ∨ L < 0 ∨ 24000 < L
  · rw [valid_neg h]; exact valid_no n L cv ps w hc h
  · obtain ⟨m, rfl⟩ := Int.eq_ofNat_of_zero_le (show 0 ≤ n by omega)
    obtain ⟨M, rfl⟩ := Int.eq_ofNat_of_zero_le (show 0 ≤ L by omega)
    have e : validB (m : Int) (M : Int) (ps.map (·.1)) = validN m M (ps.map (·.1)) := by
      unfold validB
      rw [decide_eq_true (by omega), Bool.true_and, Int.toNat_natCast, Int.toNat_natCast]
    rw [e]; exact valid_yes m M cv ps w hc hn (by omega)
end Go.Proofs.Ytnkgoaloigmmfaa
