/-
  law.SlotsAgain: the walk.
-/
import Derived.Test.YtjijiondinbmnaaTCall
import Derived.Test.YtjijiondinbmnaaTAgS
import Derived.ChangeKeysEq
namespace Go.Proofs.Ytjijiondinbmnaa
open Go.RowKit

theorem plain_int : Try.prog.plainKey 3 = true := by kernel_rfl
theorem cells_int : Try.prog.cellsOf 3 = 1 := by kernel_rfl
theorem eq_pair (w : World) (a b : Int) : (Op.equalIn 10000 51 (.agg #[.int .i64 a, .int .i64 b]) (.agg #[.int .i64 a, .int .i64 b])).run Try.prog w = .ok true w := by
  have hi : ∃ i, Try.prog.info? 3 = some i := by
    obtain ⟨i0, hi, _⟩ := info_parts info_int
    exact ⟨i0, hi⟩
  obtain ⟨i, hi⟩ := hi
  rw [run_equalIn_array (P := Try.prog) w 9999 (t := 51) (e := 3) (n := 2) _ _ Try.underlying51 hi, cells_int]
  have p0 := run_part_plain (P := Try.prog) w plain_int (xs := #[Value.int .i64 a, Value.int .i64 b]) (off := 0 * 1) (v := .int .i64 a) rfl
  have p1 := run_part_plain (P := Try.prog) w plain_int (xs := #[Value.int .i64 a, Value.int .i64 b]) (off := 1 * 1) (v := .int .i64 b) rfl
  have e0 := run_equalIn_int (P := Try.prog) w 9998 3 .i64 .i64 a a Try.underlying3
  have e1 := run_equalIn_int (P := Try.prog) w 9998 3 .i64 .i64 b b Try.underlying3
  rw [show List.range 2 = [0, 1] from rfl]
  simp only [Op.eqItems, Sem.run_bind, p0, p1, e0, e1, Result.andThen_ok, beq_self_eq_true, Bool.not_true, Bool.false_eq_true, if_false, Sem.run_pure]
set_option maxRecDepth 100000 in
set_option maxHeartbeats 4000000 in
theorem slotsAgain_main (lv mv : Value) (ps qs : List ST) (N : Nat) (w : World) (hl : RdT w lv ps) (hm : RdT w mv qs) (hps : ∀ p ∈ ps, OkT p) (hqs : ∀ p ∈ qs, OkT p) (hn1 : 1 ≤ (N : Int)) (hn2 : (N : Int) ≤ 20) (ha : (ps.length : Int) ≤ 40) (hb : (qs.length : Int) ≤ 40) : Calls Try.prog 9 #[lv, mv, .int .i64 (N : Int)] w (BoolQ true w) := by
  have hsm := hl.small
  have hsm2 := hm.small
  have HA := Lib.hid (awake_any w)
  obtain ⟨al, cl, rfl⟩ := hl.len
  obtain ⟨am, cm, rfl⟩ := hm.len
  have HL := Lib.hid hl
  have HM := Lib.hid hm
  have HPS := Lib.hid hps
  have HQS := Lib.hid hqs
  clear hl hm hps hqs
  go_enter Try.func9, Try.ntmps9
  go_wp2_with fail
  refine HA.out.mono ?_
  rintro e w1 ⟨rfl, hg1⟩
  have HG1 := Lib.hid hg1
  clear hg1
  have HN := Lib.hid (new_any N w1 (by omega) (by omega))
  go_wp2_with fail
  refine HN.out.mono ?_
  rintro e w2 ⟨g, s, rfl, hg, hs, hg2, ht2⟩
  have hsize := HG1.out.size
  have HG2 := Lib.hid (gb_same HG1.out hg2)
  have HT2 := Lib.hid ht2
  have HB := Lib.hid (show w.heap.size ≤ g ∧ w.heap.size ≤ s ∧ g < w2.heap.size ∧ s < w2.heap.size from ⟨by omega, by omega, ht2.lt.1, ht2.lt.2⟩)
  clear hg2 ht2 hg hs hsize
  go_wp2
  go_loopw [9] (fun i wr => ∃ (k : Nat) (ls : List SS), k ≤ ps.length ∧ i = .int .i64 k ∧ Hid (IsT wr g s ls) ∧ Hid (w.grownBy wr none)) (fun i _ => ps.length - (intOf i).toNat)
  case atStart => exact ⟨0, newS N, Nat.zero_le _, rfl, HT2, HG2⟩
  case round =>
    obtain ⟨k, ls, hk, rfl, HT, HG⟩ := hrel
    by_cases hlt : k < ps.length
    · obtain ⟨p, hp⟩ : ∃ p, ps[k]? = some p := ⟨ps[k], by simp [hlt]⟩
      obtain ⟨gb, off, eal, q0, q1, q2⟩ := (HL.out.grown HG.out).at hp
      have HC := Lib.hid (call_any HT.out p (HPS.out p (List.mem_of_getElem? hp)))
      subst eal
      clear hp
      go_wp2_with fail
      refine HC.out.mono ?_
      rintro e w3 ⟨rfl, hg3, ht3⟩
      have HT3 := Lib.hid ht3
      have HG3 := Lib.hid (gb_new HG.out hg3 HB.out.2.1)
      clear hg3 ht3 q0 q1 q2
      go_wp2
      go_roundw
      case rel => exact ⟨k + 1, callL ls p, by omega, by go_num, HT3, HG3⟩
      case measure => simp [intOf]; omega
    · obtain rfl : k = ps.length := by omega
      clear hlt
      rename World => wq
      have HEN := Lib.hid (encode_any HT.out)
      go_wp2_with fail
      refine HEN.out.mono ?_
      rintro e w3 ⟨v3, rfl, ho3, hg3⟩
      have hdec := decode_any v3 _ w3 ho3.rd (encN_small HT.out.len)
      unfold DecP at hdec
      rw [decT_at HT.out.pos HT.out.len HT.out.ok] at hdec
      have HDE := Lib.hid hdec
      have HT3 := Lib.hid (HT.out.grown hg3)
      have HG3 := Lib.hid (gb_same HG.out hg3)
      clear ho3 hg3 hdec
      go_wp2_with fail
      refine HDE.out.mono ?_
      rintro e w4 ⟨g2, s2, rfl, hg2l, hs2l, hg4, ht4⟩
      have HT4 := Lib.hid (HT3.out.grown hg4)
      have HU4 := Lib.hid ht4
      have HG4 := Lib.hid (gb_same HG3.out hg4)
      have HD := Lib.hid (show g ≠ g2 ∧ g ≠ s2 ∧ s ≠ g2 ∧ s ≠ s2 ∧ w.heap.size ≤ s2 from by
        have h1 := HT3.out.lt
        have h2 := HG3.out.size
        omega)
      clear hg2l hs2l hg4 ht4
      go_wp2
      go_loopw [12] (fun i wr => ∃ (k : Nat) (L : List SS), k ≤ qs.length ∧ i = .int .i64 k ∧ Hid (IsT wr g s L) ∧ Hid (IsT wr g2 s2 L) ∧ Hid (w.grownBy wr none)) (fun i _ => qs.length - (intOf i).toNat)
      case atStart => exact ⟨0, ls, Nat.zero_le _, rfl, HT4, HU4, HG4⟩
      case round =>
        obtain ⟨k, L, hk2, rfl, HTL, HUL, HGL⟩ := hrel
        by_cases hlt : k < qs.length
        · obtain ⟨p, hp⟩ : ∃ p, qs[k]? = some p := ⟨qs[k], by simp [hlt]⟩
          obtain ⟨gb, off, eam, q0, q1, q2⟩ := HM.out.at hp
          have hgb := World.block_lt_of_cell? _ _ q0
          have HOK := Lib.hid (HQS.out p (List.mem_of_getElem? hp))
          subst eam
          have HSK : Hid (∀ X row, wr.grownBy X row → (∀ r, row = some r → w.heap.size ≤ r) → X.cell? ⟨gb, off + k * 3, none⟩ = some (.int .i64 p.1) ∧ X.cell? ⟨gb, off + k * 3 + 1, none⟩ = some (.int .i64 p.2.1) ∧ X.cell? ⟨gb, off + k * 3 + 2, none⟩ = some (.int .i64 p.2.2)) := Lib.hid (fun X row hX hr => by
            have hne : some gb ≠ row := fun e => by have h1 := hr gb e.symm; have h2 : gb < w.heap.size := hgb; omega
            exact ⟨hX.cell (HGL.out.cell q0 (by simp)) hne, hX.cell (HGL.out.cell q1 (by simp)) hne, hX.cell (HGL.out.cell q2 (by simp)) hne⟩)
          have HS0 := HSK.out wr.drew none (gb_drew _ _) (by simp)
          have HC1 := Lib.hid (call_any (HTL.out.grown (gb_drew _ _)) p HOK.out)
          have HGB0 := Lib.hid (show gb < w.heap.size from hgb)
          clear hp q0 q1 q2 hgb
          go_wp2_with fail
          refine region_KL (fuel := 13) (listed := #[false, false, false, false, false, false, false, false, false, false, false, false, false]) (fun X => X.cell? ⟨gb, off + k * 3, none⟩ = some (.int .i64 p.1) ∧ X.cell? ⟨gb, off + k * 3 + 1, none⟩ = some (.int .i64 p.2.1) ∧ X.cell? ⟨gb, off + k * 3 + 2, none⟩ = some (.int .i64 p.2.2)) 12 (by kernel_rfl) rfl (by kernel_rfl) ?_
          refine wpAnyK_takeL (i := 0) (d := 82) (v := ?_) (T' := ?_) (listed' := #[true, false, false, false, false, false, false, false, false, false, false, false, false]) rfl rfl (by kernel_rfl) (fun _ _ _ h => h) rfl (Or.inl ⟨by rfl, ?_⟩) ?_ HS0 ?_
          rotate_left 2
          · intro w hS; clear hS; go_simp; rfl
          · simp only [List.setIfInBounds_toArray, List.set_cons_succ, List.set_cons_zero]; rfl
          refine wpAnyK_takeL (i := 1) (d := 83) (v := ?_) (T' := ?_) (listed' := #[true, true, false, false, false, false, false, false, false, false, false, false, false]) rfl rfl (by kernel_rfl) (fun _ _ _ h => h) rfl (Or.inl ⟨by rfl, ?_⟩) ?_ HS0 ?_
          rotate_left 2
          · intro w hS; clear hS; go_simp; rfl
          · simp only [List.setIfInBounds_toArray, List.set_cons_succ, List.set_cons_zero]; rfl
          refine wpAnyK_takeL (i := 2) (d := 84) (v := ?_) (T' := ?_) (listed' := #[true, true, true, false, false, false, false, false, false, false, false, false, false]) rfl rfl (by kernel_rfl) (fun _ _ _ h => h) rfl (Or.inl ⟨by rfl, ?_⟩) ?_ HS0 ?_
          rotate_left 2
          · intro w hS; clear hS; go_simp; rfl
          · simp only [List.setIfInBounds_toArray, List.set_cons_succ, List.set_cons_zero]; rfl
          refine wpAnyK_takeL (i := 3) (d := 85) (v := ?_) (T' := ?_) (listed' := #[true, true, true, true, false, false, false, false, false, false, false, false, false]) rfl rfl (by kernel_rfl) (fun _ _ _ h => h) rfl (Or.inl ⟨by rfl, ?_⟩) ?_ HS0 ?_
          rotate_left 2
          · intro w hS; clear hS; go_simp; rfl
          · simp only [List.setIfInBounds_toArray, List.set_cons_succ, List.set_cons_zero]; rfl
          refine wpAnyK_takeL (i := 4) (d := 86) (v := ?_) (T' := ?_) (listed' := #[true, true, true, true, true, false, false, false, false, false, false, false, false]) rfl rfl (by kernel_rfl) (fun _ _ _ h => h) rfl (Or.inl ⟨by rfl, ?_⟩) ?_ HS0 ?_
          rotate_left 2
          · intro w hS; have t0 := hS.1; have t1 := hS.2.1; have t2 := hS.2.2; clear hS; go_simp; rfl
          · simp only [List.setIfInBounds_toArray, List.set_cons_succ, List.set_cons_zero]; rfl
          refine wpAnyK_takeL (i := 6) (d := 88) (v := ?_) (T' := ?_) (listed' := #[true, true, true, true, true, false, true, false, false, false, false, false, false]) rfl rfl (by kernel_rfl) (fun _ _ _ h => h) rfl (Or.inl ⟨by rfl, ?_⟩) ?_ HS0 ?_
          rotate_left 2
          · intro w hS; clear hS; go_simp; rfl
          · simp only [List.setIfInBounds_toArray, List.set_cons_succ, List.set_cons_zero]; rfl
          refine wpAnyK_takeL (i := 7) (d := 89) (v := ?_) (T' := ?_) (listed' := #[true, true, true, true, true, false, true, true, false, false, false, false, false]) rfl rfl (by kernel_rfl) (fun _ _ _ h => h) rfl (Or.inl ⟨by rfl, ?_⟩) ?_ HS0 ?_
          rotate_left 2
          · intro w hS; clear hS; go_simp; rfl
          · simp only [List.setIfInBounds_toArray, List.set_cons_succ, List.set_cons_zero]; rfl
          refine wpAnyK_takeL (i := 8) (d := 90) (v := ?_) (T' := ?_) (listed' := #[true, true, true, true, true, false, true, true, true, false, false, false, false]) rfl rfl (by kernel_rfl) (fun _ _ _ h => h) rfl (Or.inl ⟨by rfl, ?_⟩) ?_ HS0 ?_
          rotate_left 2
          · intro w hS; clear hS; go_simp; rfl
          · simp only [List.setIfInBounds_toArray, List.set_cons_succ, List.set_cons_zero]; rfl
          refine wpAnyK_takeL (i := 9) (d := 91) (v := ?_) (T' := ?_) (listed' := #[true, true, true, true, true, false, true, true, true, true, false, false, false]) rfl rfl (by kernel_rfl) (fun _ _ _ h => h) rfl (Or.inl ⟨by rfl, ?_⟩) ?_ HS0 ?_
          rotate_left 2
          · intro w hS; clear hS; go_simp; rfl
          · simp only [List.setIfInBounds_toArray, List.set_cons_succ, List.set_cons_zero]; rfl
          refine wpAnyK_takeL (i := 10) (d := 92) (v := ?_) (T' := ?_) (listed' := #[true, true, true, true, true, false, true, true, true, true, true, false, false]) rfl rfl (by kernel_rfl) (fun _ _ _ h => h) rfl (Or.inl ⟨by rfl, ?_⟩) ?_ HS0 ?_
          rotate_left 2
          · intro w hS; have t0 := hS.1; have t1 := hS.2.1; have t2 := hS.2.2; clear hS; go_simp; rfl
          · simp only [List.setIfInBounds_toArray, List.set_cons_succ, List.set_cons_zero]; rfl
          refine wpAnyK_oneL (i := 5) (listed' := #[true, true, true, true, true, true, true, true, true, true, true, false, false]) (by kernel_rfl) rfl (by rfl) rfl ?_
          intro K hK
          go_simp
          refine HC1.out.mono ?_
          rintro e w5 ⟨rfl, hg5, ht5⟩
          have hx5 := HSK.out w5 (some s) (gb_trans (gb_drew wr (some s)) hg5 (fun _ e => .inl e)) (fun r e => by cases e; exact HB.out.2.1)
          have hu5 := (HUL.out.grown (gb_drew _ none)).kept hg5 (by have := HD.out.2.2.1; simp; omega) (by have := HD.out.2.2.2.1; simp; omega)
          have HC2 := Lib.hid (call_any hu5 p HOK.out)
          have HT5 := Lib.hid ht5
          have HG5 := Lib.hid (gb_new (gb_same HGL.out (gb_drew _ _)) hg5 HB.out.2.1)
          have HX5 := Lib.hid hx5
          have HGB := Lib.hid (show gb ≠ s2 from by have h1 := HD.out.2.2.2.2; have h2 := HGB0.out; omega)
          clear hg5 ht5 hu5
          refine hK _ _ (fun _ => hx5) ?_
          clear hK K
          refine wpAnyK_oneL (i := 11) (listed' := #[true, true, true, true, true, true, true, true, true, true, true, true, false]) (by kernel_rfl) rfl (by rfl) rfl ?_
          intro K hK
          go_simp
          refine HC2.out.mono ?_
          rintro e w6 ⟨rfl, hg6, ht6⟩
          have HT6 := Lib.hid (HT5.out.kept hg6 (by have := HD.out.2.1; simp; omega) (by have := HD.out.2.2.2.1; simp; omega))
          have HU6 := Lib.hid ht6
          have HG6 := Lib.hid (gb_new HG5.out hg6 HD.out.2.2.2.2)
          have hx6 := And.intro (hg6.cell HX5.out.1 (by have := HGB.out; simp; omega)) (And.intro (hg6.cell HX5.out.2.1 (by have := HGB.out; simp; omega)) (hg6.cell HX5.out.2.2 (by have := HGB.out; simp; omega)))
          clear hg6 ht6
          refine hK _ _ (fun _ => hx6) ?_
          have hep := eq_pair w6 (callA L p) (callB L p)
          clear hK K
          generalize callA L p = ra at *
          generalize callB L p = rb at *
          refine wpAnyK_oneL (i := 12) (listed' := #[true, true, true, true, true, true, true, true, true, true, true, true, true]) (by kernel_rfl) rfl (by rfl) rfl ?_
          intro K hK
          go_simp
          refine hK _ _ (fun h => Bool.noConfusion (show true = false from h)) ?_
          clear hK K
          refine wpAnyK_done (by kernel_rfl) ?_ _
          go_wp2
          go_roundw
          case rel => exact ⟨k + 1, callL L p, by omega, by go_num, HT6, HU6, HG6⟩
          case measure => simp [intOf]; omega
        · obtain rfl : k = qs.length := by omega
          clear hlt
          have HE1 := Lib.hid (encode_any HTL.out)
          go_wp2_with fail
          refine HE1.out.mono ?_
          rintro e w5 ⟨v5, rfl, ho5, hg5⟩
          have HO5 := Lib.hid ho5
          have HE2 := Lib.hid (encode_any (HUL.out.grown hg5))
          have HG5 := Lib.hid (gb_same HGL.out hg5)
          clear ho5 hg5
          go_wp2_with fail
          refine HE2.out.mono ?_
          rintro e w6 ⟨v6, rfl, ho6, hg6⟩
          have HSM := Lib.hid (same_true v5 v6 w6 _ (HO5.out.grown hg6).rd ho6.rd)
          have HG6 := Lib.hid (gb_same HG5.out hg6)
          clear ho6 hg6
          go_wp2_with fail
          refine HSM.out.mono ?_
          rintro e w7 ⟨rfl, rfl⟩
          go_wp2
          go_ret
          exact ⟨rfl, HG6.out⟩
theorem slotsAgain_any (lv : Value) (ps : List ST) (mv : Value) (qs : List ST) (n : Int) (w : World) (hl : RdT w lv ps) (hps : ∀ p ∈ ps, OkT p) (hm : RdT w mv qs) (hqs : ∀ p ∈ qs, OkT p) (hn : OkI n) : Calls Try.prog 9 #[lv, mv, .int .i64 n] w (BoolQ true w) := by
  by_cases hbad : n < 1 ∨ (20 : Int) < n ∨ (40 : Int) < ps.length ∨ (40 : Int) < qs.length
  · exact slotsAgain_small lv mv ps qs n w hl hm hn hbad
  · obtain ⟨N, rfl⟩ : ∃ N : Nat, n = (N : Int) := ⟨n.toNat, by omega⟩
    exact slotsAgain_main lv mv ps qs N w hl hm hps hqs (by omega) (by omega) (by omega) (by omega)
end Go.Proofs.Ytjijiondinbmnaa
