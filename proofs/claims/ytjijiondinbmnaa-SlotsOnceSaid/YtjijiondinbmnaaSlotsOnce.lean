/-
  law.SlotsOnce: the walk.
-/
import Derived.Test.YtjijiondinbmnaaTOnce
import Derived.Deep.RegionWith
namespace Go.Proofs.Ytjijiondinbmnaa
open Go.RowKit

set_option maxRecDepth 100000 in
set_option maxHeartbeats 4000000 in
theorem slotsOnce_any (lv : Value) (ps : List ST) (n : Int) (w : World) (hl : RdT w lv ps) (hps : ∀ p ∈ ps, OkT p) (hn : OkI n) : Calls Try.prog 4 #[lv, .int .i64 n] w (BoolQ true w) := by
  have hsm := hl.small
  have HA := Lib.hid (awake_any w)
  obtain ⟨al, cl, rfl⟩ := hl.len
  have HL := Lib.hid hl
  have HPS := Lib.hid hps
  clear hl hps
  go_enter Try.func4, Try.ntmps4
  go_wp2_with fail
  refine HA.out.mono ?_
  rintro e w1 ⟨rfl, hg1⟩
  have HG1 := Lib.hid hg1
  clear hg1
  by_cases hn1 : n < 1
  · by_cases hlen : (60 : Int) < ps.length
    · go_wp2_with fail
      refine (new_no n w1 (.inl hn1)).mono ?_
      rintro e w2 ⟨rfl, rfl⟩
      go_wp2
      go_ret
      exact ⟨rfl, HG1.out⟩
    · have hn2 : ¬ (20 : Int) < n := by omega
      go_wp2_with fail
      refine (new_no n w1 (.inl hn1)).mono ?_
      rintro e w2 ⟨rfl, rfl⟩
      go_wp2
      go_ret
      exact ⟨rfl, HG1.out⟩
  · by_cases hn3 : 200 < n
    · have hn2 : (20 : Int) < n := by omega
      by_cases hlen : (60 : Int) < ps.length
      · go_wp2_with fail
        refine (new_no n w1 (.inr hn3)).mono ?_
        rintro e w2 ⟨rfl, rfl⟩
        go_wp2
        go_ret
        exact ⟨rfl, HG1.out⟩
      · go_wp2_with fail
        refine (new_no n w1 (.inr hn3)).mono ?_
        rintro e w2 ⟨rfl, rfl⟩
        go_wp2
        go_ret
        exact ⟨rfl, HG1.out⟩
    · obtain ⟨N, rfl⟩ : ∃ N : Nat, n = (N : Int) := ⟨n.toNat, by omega⟩
      have HN := Lib.hid (new_any N w1 (by omega) (by omega))
      by_cases hlen : (60 : Int) < ps.length
      · go_wp2_with fail
        refine HN.out.mono ?_
        rintro e w2 ⟨g, s, rfl, hg, hs, hg2, ht2⟩
        have HG2 := Lib.hid (gb_same HG1.out hg2)
        clear hg2 ht2
        go_wp2
        go_ret
        exact ⟨rfl, HG2.out⟩
      · by_cases hn2 : (20 : Int) < (N : Int)
        · go_wp2_with fail
          refine HN.out.mono ?_
          rintro e w2 ⟨g, s, rfl, hg, hs, hg2, ht2⟩
          have HG2 := Lib.hid (gb_same HG1.out hg2)
          clear hg2 ht2
          go_wp2
          go_ret
          exact ⟨rfl, HG2.out⟩
        · go_wp2_with fail
          refine HN.out.mono ?_
          rintro e w2 ⟨g, s, rfl, hg, hs, hg2, ht2⟩
          have hsize := HG1.out.size
          have HG2 := Lib.hid (gb_same HG1.out hg2)
          have HT2 := Lib.hid ht2
          have HB := Lib.hid (show w.heap.size ≤ g ∧ w.heap.size ≤ s ∧ g < w2.heap.size ∧ s < w2.heap.size from ⟨by omega, by omega, ht2.lt.1, ht2.lt.2⟩)
          clear hg2 ht2 hg hs hsize
          go_wp2
          go_loopw [7, 8] (fun v i wr => ∃ (k : Nat) (ls : List SS) (zs : List Int), k ≤ ps.length ∧ i = .int .i64 k ∧ zs.length ≤ k ∧ Hid (IsT wr g s ls) ∧ Hid (OwnI wr w2.heap.size v zs) ∧ Hid (∀ z ∈ zs, used ls z) ∧ Hid (w.grownBy wr none) ∧ Hid (w2.heap.size ≤ wr.heap.size)) (fun _ i _ => ps.length - (intOf i).toNat)
          case atStart => exact ⟨0, newS N, [], Nat.zero_le _, rfl, Nat.zero_le _, HT2, Lib.hid (OwnI.nil _ _), Lib.hid (by simp), HG2, Lib.hid (Nat.le_refl _)⟩
          case round =>
            obtain ⟨k, ls, zs, hk, rfl, hzk, HT, HO, HU, HG, HS⟩ := hrel
            by_cases hlt : k < ps.length
            · obtain ⟨p, hp⟩ : ∃ p, ps[k]? = some p := ⟨ps[k], by simp [hlt]⟩
              obtain ⟨gb, off, rfl, q0, q1, q2⟩ := (HL.out.grown HG.out).at hp
              have hok := HPS.out p (List.mem_of_getElem? hp)
              have HOK := Lib.hid hok
              obtain ⟨kind, hd, val⟩ := p
              simp only at q0 q1 q2 HOK
              clear hp hok
              have hout : ∀ k2, OwnI wr w2.heap.size u7 zs → u7.ownBlock = some k2 → some s ≠ some k2 := fun k2 ho e2 => by
                have := World.ownsRow.lt ho k2 e2; have := HB.out.2.2.2; simp; omega
              have HOUT := Lib.hid hout
              clear hout
              by_cases h0 : kind = 0
              · subst h0
                have hpu := put_any HT.out val HOK.out.2.2
                unfold PutP at hpu
                rcases putE_cases ls with he | he
                · rw [he] at hpu
                  have HPU := Lib.hid hpu
                  have HE := Lib.hid (used_new val he)
                  clear hpu he
                  generalize putH ls = hh at HPU HE
                  go_wp2_with fail
                  refine HPU.out.mono ?_
                  rintro e w3 ⟨rfl, hg3, ht3⟩
                  have HT3 := Lib.hid ht3
                  have HO3 := Lib.hid (HO.out.kept hg3 (fun k2 e2 => HOUT.out k2 HO.out e2))
                  have HG3 := Lib.hid (gb_new HG.out hg3 HB.out.2.1)
                  have HS3 := Lib.hid (Nat.le_trans HS.out hg3.size)
                  clear hg3 ht3 q0 q1 q2
                  obtain ⟨az, cz, hz⟩ := HO3.out.len
                  have HZ := Lib.hid hz
                  subst hz
                  go_wp2
                  go_loop [11] (fun m => ∃ j : Nat, j ≤ zs.length ∧ m = .int .i64 j) (fun m => zs.length - (intOf m).toNat)
                  case atStart => exact ⟨0, Nat.zero_le _, rfl⟩
                  case round =>
                    obtain ⟨j, hj, rfl⟩ := hrel
                    by_cases hjl : j < zs.length
                    · obtain ⟨z, hz⟩ : ∃ z, zs[j]? = some z := ⟨zs[j], by simp [hjl]⟩
                      obtain ⟨gz, oz, rfl, r0⟩ := RdL.at (n := (ivs zs).length) (by have h := HO3.out.rd; simpa [ivs] using h) (j := j) (x := .int .i64 z) (by rw [List.getElem?_map, hz]; rfl)
                      have hne : (z == hh) = false := by
                        rw [beq_eq_false_iff_ne]
                        rintro rfl
                        exact HE.out.2 (HU.out z (List.mem_of_getElem? hz))
                      clear hz
                      go_wp2
                      go_round
                      case rel => exact ⟨j + 1, by omega, by go_num⟩
                      case measure => simp [intOf]; omega
                    · obtain rfl : j = zs.length := by omega
                      clear hjl
                      go_wp2_with (at_builtin; refine app_int rfl _ _ rfl w2.heap.size _ zs hh w3.heap.size rfl rfl (HO3.out.grown (gb_alloc _ _ _)) ?c1 ?c2 (by omega) ?_)
                      case c2 => exact Nat.le_trans HS3.out (Nat.le_succ _)
                      intro v' w4 ho4 hg4 hf4
                      have HO4 := Lib.hid ho4
                      have HG4 : Hid (w3.grownBy w4 (Value.slice az zs.length cz).ownBlock) := Lib.hid (gb_trans (gb_alloc _ _ _) hg4 (fun _ e => .inl e))
                      have HT4 := Lib.hid (HT3.out.kept HG4.out (fun e => by have := (World.ownsRow.lt HO3.out _ e).1; have := HB.out.2.2.1; omega) (fun e => by have := (World.ownsRow.lt HO3.out _ e).1; have := HB.out.2.2.2; omega))
                      have HG5 := Lib.hid (gb_trans HG3.out HG4.out (fun k2 e => .inr (by have := (World.ownsRow.lt HO3.out _ e).1; have := HG2.out.size; omega)))
                      clear ho4 hg4 hf4
                      go_wp2
                      go_roundw
                      case rel => exact ⟨k + 1, putL ls val, zs ++ [hh], by omega, by go_num, by simp; omega, HT4, HO4, Lib.hid (fun z hz => by
                        rcases List.mem_append.1 hz with h | h
                        · exact used_put val (HU.out z h)
                        · simp at h; subst h; exact HE.out.1), HG5, Lib.hid (Nat.le_trans HS3.out HG4.out.size)⟩
                      case measure => simp [intOf]; omega
                · rw [he] at hpu
                  have HPU := Lib.hid hpu
                  clear hpu he
                  generalize putH ls = hh at HPU
                  go_wp2_with fail
                  refine HPU.out.mono ?_
                  rintro e w3 ⟨rfl, hg3, ht3⟩
                  have HT3 := Lib.hid ht3
                  have HO3 := Lib.hid (HO.out.kept hg3 (fun k2 e2 => HOUT.out k2 HO.out e2))
                  have HG3 := Lib.hid (gb_new HG.out hg3 HB.out.2.1)
                  have HS3 := Lib.hid (Nat.le_trans HS.out hg3.size)
                  clear hg3 ht3 q0 q1 q2
                  go_wp2
                  go_roundw
                  case rel => exact ⟨k + 1, putL ls val, zs, by omega, by go_num, by omega, HT3, HO3, Lib.hid (fun z hz => used_put val (HU.out z hz)), HG3, HS3⟩
                  case measure => simp [intOf]; omega
              · have h0' : (kind == 0) = false := by simpa using h0
                by_cases h2 : kind = 2
                · subst h2
                  have HSE := Lib.hid (set_any (HT.out.grown (gb_drew _ _)) hd val HOK.out.2.1 HOK.out.2.2)
                  clear h0 h0'
                  go_wp2
                  go_region_with (go_at_call 23; (with_reducible refine HSE.out.mono ?_); rintro e w3 ⟨rfl, hg3', ht3⟩; have hg3 := gb_trans (gb_drew wr (some s)) hg3' (fun _ e => .inl e); have HT3 := Lib.hid ht3; have HO3 := Lib.hid (HO.out.kept hg3 (fun k2 e2 => HOUT.out k2 HO.out e2)); have HG3 := Lib.hid (gb_new HG.out hg3 HB.out.2.1); have HS3 := Lib.hid (Nat.le_trans HS.out hg3.size); clear hg3 hg3' ht3)
                  all_goals (try go_wp2)
                  all_goals (try go_roundw)
                  all_goals first | exact ⟨k + 1, setL ls hd val, zs, by omega, by go_num, by omega, HT3, HO3, Lib.hid (fun z hz => used_setL hd val (HU.out z hz)), HG3, HS3⟩ | exact ⟨⟨k + 1, setL ls hd val, zs, by omega, by go_num, by omega, HT3, HO3, Lib.hid (fun z hz => used_setL hd val (HU.out z hz)), HG3, HS3⟩, by simp [intOf]; omega⟩ | (simp [intOf]; omega)
                · have h2' : (kind == 2) = false := by simpa using h2
                  by_cases h3 : kind = 3
                  · subst h3
                    have HDR := Lib.hid (drop_any HT.out hd HOK.out.2.1)
                    clear h0 h0' h2 h2'
                    go_wp2_with fail
                    refine HDR.out.mono ?_
                    rintro e w3 ⟨rfl, hg3, ht3⟩
                    have HT3 := Lib.hid ht3
                    have HO3 := Lib.hid (HO.out.kept hg3 (fun k2 e2 => HOUT.out k2 HO.out e2))
                    have HG3 := Lib.hid (gb_new HG.out hg3 HB.out.2.1)
                    have HS3 := Lib.hid (Nat.le_trans HS.out hg3.size)
                    clear hg3 ht3 q0 q1 q2
                    go_wp2
                    go_roundw
                    case rel => exact ⟨k + 1, dropL ls hd, zs, by omega, by go_num, by omega, HT3, HO3, Lib.hid (fun z hz => used_drop hd (HU.out z hz)), HG3, HS3⟩
                    case measure => simp [intOf]; omega
                  · have h3' : (kind == 3) = false := by simpa using h3
                    clear h0 h2 h3
                    go_wp2
                    go_roundw
                    case rel => exact ⟨k + 1, ls, zs, by omega, by go_num, by omega, HT, HO, HU, HG, HS⟩
                    case measure => simp [intOf]; omega
            · obtain rfl : k = ps.length := by omega
              clear hlt
              go_wp2
              go_ret
              exact ⟨rfl, HG.out⟩
end Go.Proofs.Ytjijiondinbmnaa
