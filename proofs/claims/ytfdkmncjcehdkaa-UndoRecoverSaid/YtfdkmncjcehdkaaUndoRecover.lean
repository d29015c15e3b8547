/-
  law.UndoRecover: the walk.
-/
import Derived.Test.YtfdkmncjcehdkaaUFew
namespace Go.Proofs.Ytfdkmncjcehdkaa
open Go.RowKit

set_option maxRecDepth 100000 in
set_option maxHeartbeats 4000000 in
theorem undoRecover_any (vb lv : Value) (b : List UInt8) (ps : List RP) (w : World) (hb : Rd w vb b) (hl : RdRs w lv ps) (hok : ∀ p ∈ ps, OkP w p) : Calls Try.prog 6 #[vb, lv] w (BoolQ true w) := by
  have hbs := hb.small
  obtain ⟨ab, cb, rfl⟩ := hb.len
  obtain ⟨al, cl, rfl⟩ := hl.1.len
  have HW := Lib.hid (awake_any w)
  have HB := Lib.hid hb
  have HL := Lib.hid hl
  have HOK := Lib.hid hok
  have HF := Lib.hid (fun W (hW : w.grownBy W none) => few_any _ ps W (hl.grown hW))
  clear hb hl hok
  by_cases h1 : b.length ≤ 1000
  · have h1' : (b.length : Int) ≤ 1000 := by omega
    have HB1 := Lib.hid h1
    cases hf : fewB (ps.map (·.1))
    · rw [hf] at HF
      clear hf h1
      go_enter Try.func6, Try.ntmps6
      go_wp2_with (first | (go_at_call 9; refine HW.out.mono ?_; go_must (rintro e w1 ⟨rfl, hg1⟩; have HG1 := Lib.hid hg1; clear hg1)) | (go_at_call 23; (with_reducible refine (HF.out _ HG1.out).mono ?_); rintro e w' ⟨rfl, rfl⟩))
      go_ret
      exact ⟨rfl, HG1.out⟩
    · rw [hf] at HF
      obtain ⟨hn, hps⟩ := fewB_spec hf
      have HN := Lib.hid hn
      have HPS := Lib.hid hps
      clear hf h1 hn hps
      have HTO := Lib.hid (fun W (hW : w.grownBy W none) => to_any _ ps W (HL.out.grown hW) (by have := HN.out; omega) (fun p hp => by have := (HPS.out p hp).1; omega))
      have HRR := Lib.hid (fun W (hW : w.grownBy W none) => rrecover_any _ _ b ps W (HB.out.grown hW) (HL.out.grown hW) (by have := HB1.out; omega) (by have := HN.out; omega) (fun p hp => (HOK.out p hp).2.1))
      go_enter Try.func6, Try.ntmps6
      go_wp2_with (first | (go_at_call 9; refine HW.out.mono ?_; go_must (rintro e w1 ⟨rfl, hg1⟩; have HG1 := Lib.hid hg1; have HLI := Lib.hid (Own.lit w1 #[] [] 0 w1.heap.size rfl rfl (Nat.le_refl _) (Nat.zero_le _)); clear hg1)) | (go_at_call 23; (with_reducible refine (HF.out _ HG1.out).mono ?_); rintro e w' ⟨rfl, rfl⟩) | (at_builtin; refine app_bytes rfl _ _ rfl w1.heap.size _ _ [] b rfl rfl HLI.out ((HB.out.grown HG1.out).grown (gb_alloc _ _ _)) (by simp) (by have := HB1.out; simp; omega) ?_; go_must (intro v2 w2 ho2 hg2 hf2; rw [List.nil_append] at ho2; have HO2 := Lib.hid ho2; have HG2 : Hid (w.grownBy w2 none) := Lib.hid (gb_trans (gb_same HG1.out (gb_alloc _ _ none)) hg2 (fun k hk => .inr (Nat.le_trans HG1.out.size (HLI.out.lt k hk).1))); obtain ⟨a2, c2, hv2⟩ := ho2.rd.len; subst hv2; clear ho2 hg2 hf2)))
      (with_reducible refine (HTO.out w2 HG2.out).mono ?_)
      rintro e w3 ⟨v3, ps3, rfl, hr3, hp3, hg3, _, _⟩
      have hn3 : ps3.length = ps.length := by have := congrArg List.length hp3; simpa using this
      obtain ⟨a3, c3, hv3⟩ := hr3.1.len
      rw [hn3] at hv3
      subst hv3
      have hrc := recover_any _ _ b ps3 w3 (HO2.out.rd.grown hg3) hr3 (by have := HB1.out; omega) (by have := HN.out; omega)
      rw [hp3] at hrc
      have HRC := Lib.hid hrc
      have HG3 := Lib.hid hg3
      clear hr3 hp3 hg3 hrc hn3
      go_wp2_with fail
      (with_reducible refine HRC.out.mono ?_)
      rintro e w4 ⟨v4, er4, rfl, hg4, hy4, hn4⟩
      have HG4 := Lib.hid (gb_same (gb_same HG2.out HG3.out) hg4)
      have HG24 := Lib.hid (gb_same HG3.out hg4)
      have HY4 := Lib.hid hy4
      have HN4 := Lib.hid hn4
      clear hg4 hy4 hn4
      go_wp2_with fail
      (with_reducible refine (HRR.out w4 HG4.out).mono ?_)
      rintro e w5 ⟨v5, er5, rfl, hg5, hy5, hn5⟩
      have HG5 := Lib.hid (gb_same HG4.out hg5)
      have ht2 := run_toString w5 _ _ (HO2.out.rd.grown (gb_same HG24.out hg5))
      have ht0 := run_toString w5 _ _ (HB.out.grown HG5.out)
      have HTO2 := Lib.hid (HTO.out w5 HG5.out)
      cases hq : okAll (ps.map (·.1))
      · obtain ⟨rfl, rfl⟩ := HN4.out hq
        obtain ⟨rfl, rfl⟩ := hn5 hq
        have HQ := Lib.hid hq
        have ht4 := run_toString w5 (.slice none 0 0) [] (.inl ⟨rfl, rfl⟩)
        clear hg5 hy5 hn5 hq
        go_wp2_with fail
        (with_reducible refine HTO2.out.mono ?_)
        rintro e w6 ⟨v6, ps6, rfl, hr6, hp6, hg6, _, _⟩
        have hn6 : ps6.length = ps.length := by have := congrArg List.length hp6; simpa using this
        obtain ⟨a6, c6, hv6⟩ := hr6.1.len
        rw [hn6] at hv6
        subst hv6
        have hrc := recover_any (.slice none 0 0) _ [] ps6 w6 (.inl ⟨rfl, rfl⟩) hr6 (by simp) (by have := HN.out; omega)
        rw [hp6] at hrc
        have HRC := Lib.hid hrc
        have HG6 := Lib.hid (gb_same HG5.out hg6)
        clear hr6 hp6 hg6 hrc hn6 ht4 ht2 ht0
        go_wp2_with fail
        (with_reducible refine HRC.out.mono ?_)
        rintro e w7 ⟨v7, er7, rfl, hg7, _, _⟩
        have HG7 := Lib.hid (gb_same HG6.out hg7)
        clear hg7
        go_wp2
        go_ret
        exact ⟨rfl, HG7.out⟩
      · obtain ⟨rfl, ho4⟩ := HY4.out hq
        obtain ⟨rfl, ho5⟩ := hy5 hq
        have HTW := Lib.hid (rec_twice b hq)
        have HQ := Lib.hid hq
        have hlen : (recL b (ps.map (·.1))).length ≤ 24000 := by
          have := takeAll_le (ps.map (·.1)).reverse b 24000 (fun r hr => okAll_spec hq r hr) (by have := HB1.out; omega) (Nat.le_refl _)
          exact this
        have ht4 := run_toString w5 _ _ (ho4.rd.grown hg5)
        have ht5 := run_toString w5 _ _ ho5.rd
        have HO4 := Lib.hid (ho4.rd.grown hg5)
        obtain ⟨a4, c4, hv4⟩ := ho4.rd.len
        obtain ⟨a5, c5, hv5⟩ := ho5.rd.len
        subst hv4 hv5
        generalize hR : recL b (ps.map (·.1)) = R at *
        have HRR2 := Lib.hid hR
        have HLEN := Lib.hid hlen
        clear hg5 hy5 hn5 hq ho4 ho5 hlen hR
        go_wp2_with fail
        (with_reducible refine HTO2.out.mono ?_)
        rintro e w6 ⟨v6, ps6, rfl, hr6, hp6, hg6, _, _⟩
        have hn6 : ps6.length = ps.length := by have := congrArg List.length hp6; simpa using this
        obtain ⟨a6, c6, hv6⟩ := hr6.1.len
        rw [hn6] at hv6
        subst hv6
        have hrc := recover_any _ _ R ps6 w6 (HO4.out.grown hg6) hr6 (by have := HLEN.out; omega) (by have := HN.out; omega)
        rw [hp6, HQ.out, HTW.out] at hrc
        have HRC := Lib.hid hrc
        have HG6 := Lib.hid (gb_same HG5.out hg6)
        have HG56 := Lib.hid hg6
        clear hr6 hp6 hg6 hrc hn6 ht4 ht5 ht2 ht0
        go_wp2_with fail
        (with_reducible refine HRC.out.mono ?_)
        rintro e w7 ⟨v7, er7, rfl, hg7, hy7, _⟩
        obtain ⟨rfl, ho7⟩ := hy7 rfl
        have HG7 := Lib.hid (gb_same HG6.out hg7)
        have t7 := run_toString w7 _ _ ho7.rd
        have t4 := run_toString w7 _ _ (HO4.out.grown (gb_same HG56.out hg7))
        obtain ⟨a7, c7, hv7⟩ := ho7.rd.len
        subst hv7
        clear hg7 hy7 ho7
        go_wp2
        go_ret
        exact ⟨rfl, HG7.out⟩
  · have h1' : (1000 : Int) < b.length := by omega
    clear h1
    go_enter Try.func6, Try.ntmps6
    go_wp2_with (go_at_call 9; refine HW.out.mono ?_; go_must (rintro e w1 ⟨rfl, hg1⟩; have HG1 := Lib.hid hg1; clear hg1))
    go_ret
    exact ⟨rfl, HG1.out⟩
end Go.Proofs.Ytfdkmncjcehdkaa
