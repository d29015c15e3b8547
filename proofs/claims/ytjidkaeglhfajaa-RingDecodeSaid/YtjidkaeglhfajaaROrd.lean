/-
  law.RingOrder: the walk.
-/
import Derived.Test.YtjidkaeglhfajaaRSh
namespace Go.Proofs.Ytjidkaeglhfajaa
open Go.RowKit

theorem RdW.take {w : World} {a : Option Addr} {n c : Nat} {l : List UInt8} (h : RdW w (.slice a n c) l) {m : Nat} (hm : m ≤ l.length) : RdW w (.slice a m c) (l.take m) := by
  rcases h with (⟨h0, rfl⟩ | ⟨b, off, cap, h0, h1, h2, h3⟩) | ⟨ad, h0, rfl⟩
  · cases h0
    obtain rfl : m = 0 := by simpa using hm
    exact .inl (.inl ⟨rfl, rfl⟩)
  · cases h0
    refine .inl (.inr ⟨b, off, c, by rw [List.length_take, Nat.min_eq_left hm], by rw [List.length_take]; omega, h2, fun j x hj => h3 j x ?_⟩)
    rw [List.getElem?_take] at hj
    split at hj
    · exact hj
    · cases hj
  · cases h0
    obtain rfl : m = 0 := by simpa using hm
    exact .inr ⟨ad, rfl, rfl⟩
theorem putN_le (n : Nat) (l b : List UInt8) : putN n l b ≤ b.length := Nat.min_le_left _ _
/-- two rows lie apart -/
def Apart (v u : Value) : Prop := ∀ k, v.ownBlock = some k → u.ownBlock ≠ some k
theorem Apart.fr {w : World} {v v' u : Value} {B : Nat} {l : List UInt8} (h : Apart v u) (hf : Fr w v v') (hu : Own w B u l) : Apart v' u := fun k hk e => by
  rcases hf k hk with h1 | h1
  · exact h k h1 e
  · have := (hu.lt k e).2; omega
theorem Apart.symm {v u : Value} (h : Apart v u) : Apart u v := fun k hk e => h k e hk
set_option maxRecDepth 100000 in
set_option maxHeartbeats 4000000 in
theorem ringOrder_any (lv : Value) (ps : List RP) (n : Int) (w : World) (hl : RdRs w lv ps) (hps : ∀ p ∈ ps, OkP w p) : Calls Try.prog 4 #[lv, .int .i64 n] w (BoolQ true w) := by
  have hsm := hl.1.small
  have HA := Lib.hid (awake_any w)
  have HSH := Lib.hid short_any
  obtain ⟨al, cl, rfl⟩ := hl.1.len
  have HL := Lib.hid hl
  have HPS := Lib.hid hps
  clear hl hps
  go_enter Try.func4, Try.ntmps4
  go_wp2_with fail
  refine HA.out.mono ?_
  rintro e w1 ⟨rfl, hg1⟩
  have HG1 := Lib.hid hg1
  have HL1 := Lib.hid (HL.out.grown hg1)
  clear hg1
  by_cases hn1 : n < 1 ∨ 4096 < n
  · have HNO := Lib.hid (newB_no n w1 hn1)
    have HS := Lib.hid (HSH.out _ _ _ HL1.out)
    cases hsb : shortB ps with
    | false =>
      rw [hsb] at HS
      clear hn1 hsb
      go_wp2_with fail
      refine HNO.out.mono ?_
      rintro e w2 ⟨rfl, rfl⟩
      go_wp2_with (go_at_call 11; (with_reducible refine HS.out.mono ?_); rintro e w' ⟨rfl, rfl⟩)
      go_ret
      exact ⟨rfl, HG1.out⟩
    | true =>
      rw [hsb] at HS
      by_cases hn2 : n < 1
      · clear hn1 hsb
        go_wp2_with fail
        refine HNO.out.mono ?_
        rintro e w2 ⟨rfl, rfl⟩
        go_wp2_with (go_at_call 11; (with_reducible refine HS.out.mono ?_); rintro e w' ⟨rfl, rfl⟩)
        go_ret
        exact ⟨rfl, HG1.out⟩
      · have hn3 : 4096 < n := by omega
        clear hn1 hsb
        go_wp2_with fail
        refine HNO.out.mono ?_
        rintro e w2 ⟨rfl, rfl⟩
        go_wp2_with (go_at_call 11; (with_reducible refine HS.out.mono ?_); rintro e w' ⟨rfl, rfl⟩)
        go_ret
        exact ⟨rfl, HG1.out⟩
  · obtain ⟨N, hN⟩ : ∃ N : Nat, n = (N : Int) := ⟨n.toNat, by omega⟩
    subst hN
    have HN := Lib.hid (newB_any N w1 (by omega) (by omega))
    have HNL : Hid (N ≤ 4096) := Lib.hid (by omega)
    have hnl : N ≤ 4096 := HNL.out
    clear hn1
    cases hsb : shortB ps with
    | false =>
      clear HNL
      go_wp2_with fail
      refine HN.out.mono ?_
      rintro e w2 ⟨g, s, rfl, hg, hs, hg2, hq2⟩
      have HG2 := Lib.hid (gb_same HG1.out hg2)
      have HS := Lib.hid (HSH.out _ _ _ (HL1.out.grown hg2))
      rw [hsb] at HS
      clear hg2 hq2 hsb
      go_wp2_with (go_at_call 11; (with_reducible refine HS.out.mono ?_); rintro e w' ⟨rfl, rfl⟩)
      go_ret
      exact ⟨rfl, HG2.out⟩
    | true =>
      have HSP := Lib.hid (shortB_spec hsb)
      go_wp2_with fail
      refine HN.out.mono ?_
      rintro e w2 ⟨g, s, rfl, hg, hs, hg2, hq2⟩
      have HG2 := Lib.hid (gb_same HG1.out hg2)
      have HS := Lib.hid (HSH.out _ _ _ (HL1.out.grown hg2))
      rw [hsb] at HS
      have hsz := HG1.out.size
      have HB := Lib.hid (show w.heap.size ≤ g ∧ w.heap.size ≤ s ∧ g < w2.heap.size ∧ s < w2.heap.size ∧ w.heap.size ≤ w2.heap.size from ⟨by omega, by omega, hq2.lt.1, hq2.lt.2, HG2.out.size⟩)
      have HQ2 := Lib.hid hq2
      clear hg2 hq2 hsb hg hs hsz
      go_wp2_with (go_at_call 11; (with_reducible refine HS.out.mono ?_); rintro e w' ⟨rfl, rfl⟩)
      go_loopw [7, 8, 9] (fun v u i wr => ∃ (k f : Nat) (cs L I O : List UInt8), k ≤ ps.length ∧ i = .int .i64 k ∧ I.length ≤ k * 200 ∧ Hid (IsB wr g s N f cs L) ∧ Hid (Own wr w2.heap.size v I) ∧ Hid (Own wr w2.heap.size u O) ∧ Hid (Apart v u) ∧ Hid (O ++ L = I) ∧ Hid (w.grownBy wr none) ∧ Hid (w2.heap.size ≤ wr.heap.size)) (fun _ _ i _ => ps.length - (intOf i).toNat)
      case atStart => exact ⟨0, 0, _, [], [], [], Nat.zero_le _, rfl, Nat.zero_le _, HQ2, Lib.hid (Own.nil _ _), Lib.hid (Own.nil _ _), Lib.hid (by simp [Apart, Value.ownBlock]), Lib.hid rfl, HG2, Lib.hid (Nat.le_refl _)⟩
      case round =>
        obtain ⟨k, f, cs, L, I, O, hk, rfl, hIk, HQ, HI, HO, HAP, HEQ, HG, HSZ⟩ := hrel
        have HLR := Lib.hid (HL.out.grown HG.out)
        by_cases hlt : k < ps.length
        · obtain ⟨p, hp⟩ : ∃ p, ps[k]? = some p := ⟨ps[k], by simp [hlt]⟩
          have hpm := List.mem_of_getElem? hp
          obtain ⟨gb, off, hal, q0, q1, q2⟩ := HLR.out.1.at hp
          subst hal
          have hrd := HLR.out.2 p hpm
          have HRD := Lib.hid hrd
          have HBL : Hid (p.1.2.2.length ≤ 200) := Lib.hid (HSP.out.1 p hpm)
          have HPL : Hid (ps.length ≤ 40) := Lib.hid HSP.out.2
          have HOK := Lib.hid (HPS.out p hpm)
          have HNE : Hid (p.1.2.2 ≠ [] → ∀ k, p.2.ownBlock = some k → k ≠ g ∧ k ≠ s) := Lib.hid (fun hz k hk => by
            have := (HL.out.2 p hpm).blk hz k hk
            have := HB.out
            omega)
          have HP := Lib.hid hp
          have HZ : Hid (∀ X, w.grownBy X none → X.cell? ⟨gb, off + k * 3, none⟩ = some (.int .i64 p.1.1) ∧ X.cell? ⟨gb, off + k * 3 + 1, none⟩ = some (.int .i64 p.1.2.1) ∧ X.cell? ⟨gb, off + k * 3 + 2, none⟩ = some p.2) := Lib.hid (fun X hX => by
            obtain ⟨gb', off', hal', z0, z1, z2⟩ := (HL.out.grown hX).1.at hp
            simp only [Option.some.injEq, Addr.mk.injEq, and_true] at hal'
            obtain ⟨rfl, rfl⟩ := hal'
            exact ⟨z0, z1, z2⟩)
          obtain ⟨ad, cd, hpd, hcd⟩ := hrd.form
          have hds := hrd.small
          obtain ⟨⟨kind, z, b⟩, pv⟩ := p
          simp only at hpd q0 q1 q2 HBL HRD HNE hds hcd HZ
          subst hpd
          clear hp hpm hrd
          by_cases h0 : kind = 0
          · subst h0
            have HPU := Lib.hid (put_any HQ.out _ b HRD.out HNE.out)
            go_wp2_with fail
            refine HPU.out.mono ?_
            rintro e w3 ⟨rfl, hk3, cs3, hq3⟩
            have hmb := putN_le N L b
            have HMF : Hid (putN N L b < b.length → N - (L ++ b.take (putN N L b)).length = 0) := Lib.hid (fun h => by
              rw [List.length_append, List.length_take]
              unfold putN at *
              omega)
            have hq3' := hq3
            generalize hm : putN N L b = m at hk3 hq3 hmb HMF ⊢
            have HG3 := Lib.hid (K2.new HG.out HB.out.1 HB.out.2.1 hk3)
            have HI3 := Lib.hid (K2.own HI.out hk3 (fun j hj => by have := (HI.out.lt j hj).1; have := HB.out; omega))
            have HO3 := Lib.hid (K2.own HO.out hk3 (fun j hj => by have := (HO.out.lt j hj).1; have := HB.out; omega))
            have HFR := Lib.hid (freeB_any hq3)
            have HQ3 := Lib.hid hq3
            have HSZ3 : Hid (w2.heap.size ≤ w3.heap.size) := Lib.hid (Nat.le_trans HSZ.out hk3.size)
            have HRD3 := Lib.hid ((HL.out.grown HG3.out).2 _ (List.mem_of_getElem? HP.out))
            obtain ⟨z0, z1, z2⟩ := HZ.out _ HG3.out
            simp only at HRD3
            have hRT := HRD3.out.take hmb
            have HRT := Lib.hid hRT
            have hmi : (m : Int) ≤ 200 := by have := HBL.out; omega
            have hmc : m ≤ cd := by omega
            have hIl : I.length + m ≤ 16000 := by have := HPL.out; have := HBL.out; omega
            have HIK : Hid ((I ++ b.take m).length ≤ (k + 1) * 200) := Lib.hid (by rw [List.length_append, List.length_take]; have := HBL.out; omega)
            clear hk3 hq3 hq3' hRT q0 q1 q2 HPU hm
            by_cases hmm : m = b.length
            · have h1 : ¬ (b.length : Int) < (m : Int) := by omega
              have h2 : ¬ (m : Int) < (b.length : Int) := by omega
              clear hmm
              go_wp2_with (at_builtin; refine app_bytesW rfl _ _ rfl w2.heap.size _ _ I (b.take m) rfl rfl HI3.out HRT.out HSZ3.out (by rw [List.length_take]; omega) ?_; go_must (intro v5 w5 ho5 hg5 hf5; have HO5 := Lib.hid ho5; have HG5 := Lib.hid hg5; have HF5 := Lib.hid hf5; have HGW := Lib.hid (gb_trans HG3.out HG5.out (fun j hj => .inr (by have := (HI3.out.lt j hj).1; have := HB.out; omega))); obtain ⟨y0, y1, y2⟩ := HZ.out _ HGW.out; clear ho5 hg5 hf5))
              have HQ5 := Lib.hid (HQ3.out.kept HG5.out (fun e => by have := (HI3.out.lt _ e).1; have := HB.out; omega) (fun e => by have := (HI3.out.lt _ e).1; have := HB.out; omega))
              have HOO5 := Lib.hid (HO3.out.kept HG5.out (fun j hj e => HAP.out j e hj))
              have HAP5 := Lib.hid (Apart.fr HAP.out HF5.out HO3.out)
              have HSZ5 : Hid (w2.heap.size ≤ w5.heap.size) := Lib.hid (Nat.le_trans HSZ3.out HG5.out.size)
              have HE5 : Hid (O ++ (L ++ b.take m) = I ++ b.take m) := Lib.hid (by rw [← List.append_assoc, HEQ.out])
              go_roundw
              case rel => exact ⟨k + 1, f, cs3, L ++ b.take m, I ++ b.take m, O, by omega, by go_num, HIK.out, HQ5, HO5, HOO5, HAP5, HE5, HGW, HSZ5⟩
              case measure => simp [intOf]; omega
            · have h1 : ¬ (b.length : Int) < (m : Int) := by omega
              have h2 : (m : Int) < (b.length : Int) := by omega
              have hfe := HMF.out (by omega)
              rw [hfe] at HFR
              clear hmm hfe
              go_wp2_with fail
              refine HFR.out.mono ?_
              rintro e w4 ⟨rfl, hg4⟩
              have HG4 := Lib.hid (gb_same HG3.out hg4)
              have HI4 := Lib.hid (HI3.out.grown hg4)
              have HO4 := Lib.hid (HO3.out.grown hg4)
              have HQ4 := Lib.hid (HQ3.out.grown hg4)
              have HSZ4 : Hid (w2.heap.size ≤ w4.heap.size) := Lib.hid (Nat.le_trans HSZ3.out hg4.size)
              have HRT4 := Lib.hid (HRT.out.grown hg4)
              clear z0 z1 z2
              obtain ⟨z0, z1, z2⟩ := HZ.out _ HG4.out
              clear hg4 HG3 HI3 HO3 HQ3 HSZ3 HRT
              go_wp2_with (at_builtin; refine app_bytesW rfl _ _ rfl w2.heap.size _ _ I (b.take m) rfl rfl HI4.out HRT4.out HSZ4.out (by rw [List.length_take]; omega) ?_; go_must (intro v5 w5 ho5 hg5 hf5; have HO5 := Lib.hid ho5; have HG5 := Lib.hid hg5; have HF5 := Lib.hid hf5; have HGW := Lib.hid (gb_trans HG4.out HG5.out (fun j hj => .inr (by have := (HI4.out.lt j hj).1; have := HB.out; omega))); obtain ⟨y0, y1, y2⟩ := HZ.out _ HGW.out; clear ho5 hg5 hf5))
              have HQ5 := Lib.hid (HQ4.out.kept HG5.out (fun e => by have := (HI4.out.lt _ e).1; have := HB.out; omega) (fun e => by have := (HI4.out.lt _ e).1; have := HB.out; omega))
              have HOO5 := Lib.hid (HO4.out.kept HG5.out (fun j hj e => HAP.out j e hj))
              have HAP5 := Lib.hid (Apart.fr HAP.out HF5.out HO4.out)
              have HSZ5 : Hid (w2.heap.size ≤ w5.heap.size) := Lib.hid (Nat.le_trans HSZ4.out HG5.out.size)
              have HE5 : Hid (O ++ (L ++ b.take m) = I ++ b.take m) := Lib.hid (by rw [← List.append_assoc, HEQ.out])
              go_roundw
              case rel => exact ⟨k + 1, f, cs3, L ++ b.take m, I ++ b.take m, O, by omega, by go_num, HIK.out, HQ5, HO5, HOO5, HAP5, HE5, HGW, HSZ5⟩
              case measure => simp [intOf]; omega
          · have h0' : (kind == 0) = false := by rw [beq_eq_false_iff_ne]; exact h0
            by_cases h1 : kind = 1
            · subst h1
              have HTK := Lib.hid (take_any HQ.out z HOK.out.2.2)
              clear h0
              go_wp2_with fail
              refine HTK.out.mono ?_
              rintro e w3 ⟨v3, f3, cs3, rfl, ho3, hk3, hq3⟩
              have hE3 : (O ++ L.take z.toNat) ++ L.drop z.toNat = I := by rw [List.append_assoc, List.take_append_drop]; exact HEQ.out
              generalize L.take z.toNat = T at ho3 hE3
              generalize L.drop z.toNat = D at hq3 hE3
              have HG3 := Lib.hid (K2.new HG.out HB.out.1 HB.out.2.1 hk3)
              have HI3 := Lib.hid (K2.own HI.out hk3 (fun j hj => by have := (HI.out.lt j hj).1; have := HB.out; omega))
              have HO3 := Lib.hid (K2.own HO.out hk3 (fun j hj => by have := (HO.out.lt j hj).1; have := HB.out; omega))
              have HQ3 := Lib.hid hq3
              have HV3 := Lib.hid ho3.rd
              have HSZ3 : Hid (w2.heap.size ≤ w3.heap.size) := Lib.hid (Nat.le_trans HSZ.out hk3.size)
              have HE3 := Lib.hid hE3
              have HOL : Hid (O.length + T.length ≤ 140737488355328) := Lib.hid (by
                have h1 := congrArg List.length HE3.out
                simp only [List.length_append] at h1
                have := HPL.out
                omega)
              obtain ⟨a3, c3, hv3⟩ := HV3.out.len
              subst hv3
              clear hk3 hq3 ho3 q0 q1 q2 HTK hE3
              go_wp2_with (at_builtin; refine app_bytesW rfl _ _ rfl w2.heap.size _ _ O T rfl rfl HO3.out HV3.out.w HSZ3.out HOL.out ?_; go_must (intro v5 w5 ho5 hg5 hf5; have HO5 := Lib.hid ho5; have HG5 := Lib.hid hg5; have HF5 := Lib.hid hf5; clear ho5 hg5 hf5))
              have HGW := Lib.hid (gb_trans HG3.out HG5.out (fun j hj => .inr (by have := (HO3.out.lt j hj).1; have := HB.out; omega)))
              have HQ5 := Lib.hid (HQ3.out.kept HG5.out (fun e => by have := (HO3.out.lt _ e).1; have := HB.out; omega) (fun e => by have := (HO3.out.lt _ e).1; have := HB.out; omega))
              have HI5 := Lib.hid (HI3.out.kept HG5.out (fun j hj e => HAP.out j hj e))
              have HAP5 := Lib.hid (Apart.fr HAP.out.symm HF5.out HI3.out).symm
              have HSZ5 : Hid (w2.heap.size ≤ w5.heap.size) := Lib.hid (Nat.le_trans HSZ3.out HG5.out.size)
              go_roundw
              case rel => exact ⟨k + 1, f3, cs3, D, I, O ++ T, by omega, by go_num, by omega, HQ5, HI5, HO5, HAP5, HE3, HGW, HSZ5⟩
              case measure => simp [intOf]; omega
            · have h1' : (kind == 1) = false := by rw [beq_eq_false_iff_ne]; exact h1
              clear h0 h1
              go_wp2
              go_roundw
              case rel => exact ⟨k + 1, f, cs, L, I, O, by omega, by go_num, by omega, HQ, HI, HO, HAP, HEQ, HG, HSZ⟩
              case measure => simp [intOf]; omega
        · obtain rfl : k = ps.length := by omega
          have HLB := Lib.hid (lenB_any HQ.out)
          have HPK := Lib.hid (peek_any HQ.out (L.length : Int) ⟨by omega, by have := HQ.out.cnt; omega⟩)
          have HPL : Hid (ps.length ≤ 40) := Lib.hid HSP.out.2
          have hIl : O.length + L.length ≤ 16000 := by have h1 := congrArg List.length HEQ.out; simp only [List.length_append] at h1; have := HPL.out; omega
          clear hlt
          go_wp2_with fail
          refine HLB.out.mono ?_
          rintro e w3 ⟨rfl, rfl⟩
          go_wp2_with fail
          refine HPK.out.mono ?_
          rintro e w4 ⟨v4, rfl, ho4, hg4⟩
          rw [Int.toNat_natCast, List.take_length] at ho4
          have HV4 := Lib.hid ho4.rd
          have HG4 := Lib.hid (gb_same HG.out hg4)
          have HI4 := Lib.hid (HI.out.grown hg4)
          have HO4 := Lib.hid (HO.out.grown hg4)
          have HQ4 := Lib.hid (HQ.out.grown hg4)
          have HSZ4 : Hid (w2.heap.size ≤ w4.heap.size) := Lib.hid (Nat.le_trans HSZ.out hg4.size)
          obtain ⟨a4, c4, hv4⟩ := HV4.out.len
          subst hv4
          clear ho4 hg4
          go_wp2_with (at_builtin; refine app_bytesW rfl _ _ rfl w2.heap.size _ _ O L rfl rfl HO4.out HV4.out.w HSZ4.out (by omega) ?_; go_must (intro v5 w5 ho5 hg5 hf5; have HO5 := Lib.hid ho5; have HG5 := Lib.hid hg5; have HF5 := Lib.hid hf5; clear ho5 hg5 hf5))
          have HGW := Lib.hid (gb_trans HG4.out HG5.out (fun j hj => .inr (by have := (HO4.out.lt j hj).1; have := HB.out; omega)))
          have HQ5 := Lib.hid (HQ4.out.kept HG5.out (fun e => by have := (HO4.out.lt _ e).1; have := HB.out; omega) (fun e => by have := (HO4.out.lt _ e).1; have := HB.out; omega))
          have HI5 := Lib.hid (HI4.out.kept HG5.out (fun j hj e => HAP.out j hj e))
          have ho6 := HO5.out
          rw [HEQ.out] at ho6
          have HSM := Lib.hid (same_gW _ _ w5 I ho6.rd.w HI5.out.rd.w)
          clear ho6
          refine HSM.out.mono ?_
          rintro e w6 ⟨rfl, hg6⟩
          have HQ6 := HQ5.out.grown hg6
          have HG6 := Lib.hid (gb_same HGW.out hg6)
          have HLB6 := Lib.hid (lenB_any HQ6)
          have HFB6 := Lib.hid (freeB_any HQ6)
          have hcn := HQ6.cnt
          have hsum : (L.length : Int) + ((N - L.length : Nat) : Int) = (N : Int) := by omega
          clear HQ6 hg6
          go_wp2_with fail
          refine HLB6.out.mono ?_
          rintro e w7 ⟨rfl, rfl⟩
          go_wp2_with fail
          refine HFB6.out.mono ?_
          rintro e w8 ⟨rfl, hg8⟩
          have HG8 := Lib.hid (gb_same HG6.out hg8)
          have hNe : ((N : Int) == (N : Int)) = true := by simp
          clear hg8
          go_wp2
          go_ret
          exact ⟨rfl, HG8.out⟩
end Go.Proofs.Ytjidkaeglhfajaa
