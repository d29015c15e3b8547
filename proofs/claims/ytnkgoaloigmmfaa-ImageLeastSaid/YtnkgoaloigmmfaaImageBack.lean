/-
  law.ImageBack: the walk.
-/
import Derived.Test.YtnkgoaloigmmfaaIApply
namespace Go.Proofs.Ytnkgoaloigmmfaa
open Go.RowKit

theorem diff_nil (a b : List UInt8) : diffL a b = [] ↔ ∀ k : Nat, k < (b.length + 127) / 128 → pg b (k : Int) = pg a (k : Int) := by
  unfold diffL diffTo
  rw [List.flatMap_eq_nil_iff, cnt_toNat]
  constructor
  · intro h k hk
    have := h k (List.mem_range.2 hk)
    unfold diffAt at this
    split at this
    · rename_i h2; simpa using h2
    · cases this
  · intro h k hk
    unfold diffAt
    rw [if_pos (by simpa using h k (List.mem_range.1 hk))]
theorem nil_of {a b : List UInt8} (h2 : a.take b.length = b) (h3 : b.length = a.length ∨ b.length % 128 = 0) : diffL a b = [] := by
  rw [diff_nil]
  intro k hk
  apply List.ext_getElem?
  intro i
  rw [pg_get, pg_get]
  split
  · rename_i hi
    conv => lhs; rw [← h2]
    rw [List.getElem?_take]
    split
    · rfl
    · rename_i h4
      rcases h3 with h3 | h3
      · rw [List.getElem?_eq_none (by omega)]
      · omega
  · rfl
theorem of_nil {a b : List UInt8} (h : diffL a b = []) : b.length ≤ a.length ∧ a.take b.length = b ∧ (b.length = a.length ∨ b.length % 128 = 0) := by
  rw [diff_nil] at h
  have hg : ∀ i, i < b.length → a[i]? = b[i]? := fun i hi => by
    rw [← get_pg a, ← get_pg b, h (i / 128) (by omega)]
  have hle : b.length ≤ a.length := by
    apply Classical.byContradiction
    intro hn
    have := hg a.length (by omega)
    rw [List.getElem?_eq_none (Nat.le_refl _), List.getElem?_eq_getElem (by omega)] at this
    cases this
  refine ⟨hle, ?_, ?_⟩
  · apply List.ext_getElem?
    intro i
    rw [List.getElem?_take]
    split
    · rename_i hi; exact hg i hi
    · rw [List.getElem?_eq_none (by omega)]
  · by_cases h0 : b.length % 128 = 0
    · exact .inr h0
    · have h5 := congrArg List.length (h ((b.length - 1) / 128) (by omega))
      rw [pg_len', pg_len', szN_nat, szN_nat] at h5
      omega

theorem Rd.cap {w : World} {a : Option Addr} {n c : Nat} {l : List UInt8} (h : Rd w (.slice a n c) l) : l.length ≤ c ∧ c ≤ 9223372036854775807 := by
  rcases h with ⟨h0, rfl⟩ | ⟨b, off, cap, h0, h1, h2, h3⟩
  · cases h0; simp
  · cases h0
    simp only [maxLen] at h2
    exact ⟨h1, by omega⟩
theorem valid_patch (a b : List UInt8) (h : b.length ≤ 24000) : validB a.length b.length (diffL a b) = true := by
  unfold validB
  rw [Int.toNat_natCast, Int.toNat_natCast, valid_diff, decide_eq_true (by omega)]; rfl
theorem back_cases (a b : List UInt8) (n : Nat) (hn : (diffL a b).length = n) :
    (a.length < b.length ∧ ((n : Int) == 0) = false) ∨ (b.length ≤ a.length ∧ (a.take b.length == b) = false ∧ ((n : Int) == 0) = false) ∨ (b.length ≤ a.length ∧ (a.take b.length == b) = true ∧ ((b.length : Int) == a.length) = true ∧ ((n : Int) == 0) = true) ∨
    (b.length ≤ a.length ∧ (a.take b.length == b) = true ∧ ((b.length : Int) == a.length) = false ∧ ((b.length : Int) % 128 == 0) = true ∧ ((n : Int) == 0) = true) ∨ (b.length ≤ a.length ∧ (a.take b.length == b) = true ∧ ((b.length : Int) == a.length) = false ∧ ((b.length : Int) % 128 == 0) = false ∧ ((n : Int) == 0) = false) := by
  have hz : n = 0 ↔ diffL a b = [] := by rw [← hn]; exact List.length_eq_zero_iff
  have f : n ≠ 0 → ((n : Int) == 0) = false := fun h => by rw [beq_eq_false_iff_ne]; omega
  have t : n = 0 → ((n : Int) == 0) = true := fun h => by rw [h]; rfl
  by_cases h1 : b.length ≤ a.length
  · by_cases h2 : a.take b.length = b
    · by_cases h3 : b.length = a.length
      · exact .inr (.inr (.inl ⟨h1, by simpa using h2, by rw [beq_iff_eq]; omega, t (hz.2 (nil_of h2 (.inl h3)))⟩))
      · by_cases h4 : b.length % 128 = 0
        · exact .inr (.inr (.inr (.inl ⟨h1, by simpa using h2, by rw [beq_eq_false_iff_ne]; omega, by rw [beq_iff_eq]; omega, t (hz.2 (nil_of h2 (.inr h4)))⟩)))
        · exact .inr (.inr (.inr (.inr ⟨h1, by simpa using h2, by rw [beq_eq_false_iff_ne]; omega, by rw [beq_eq_false_iff_ne]; omega, f (fun e => by rcases (of_nil (hz.1 e)).2.2 with h | h; exact h3 h; exact h4 h)⟩)))
    · exact .inr (.inl ⟨h1, by simpa using h2, f (fun e => h2 (of_nil (hz.1 e)).2.1)⟩)
  · exact .inl ⟨by omega, f (fun e => h1 (of_nil (hz.1 e)).1)⟩

set_option maxRecDepth 100000 in
set_option maxHeartbeats 4000000 in
theorem imageBack_any (va vb : Value) (a b : List UInt8) (w : World) (ha : Rd w va a) (hb : Rd w vb b) :
    Calls Try.prog 7 #[va, vb] w (BoolQ true w) := by
  have hsa := ha.small
  have hsb := hb.small
  have HA := Lib.hid ha
  have HB := Lib.hid hb
  obtain ⟨aa, ca, rfl⟩ := ha.len
  obtain ⟨ab, cb, rfl⟩ := hb.len
  clear ha hb
  have HW := Lib.hid (awake_any w)
  by_cases h1 : 2000 < a.length
  · go_enter Try.func7, Try.ntmps7
    go_wp2_with (go_at_call 11; refine HW.out.mono ?_; rintro e w1 ⟨rfl, hg1⟩)
    go_ret
    exact ⟨rfl, hg1⟩
  by_cases h2 : 2000 < b.length
  · go_enter Try.func7, Try.ntmps7
    go_wp2_with (go_at_call 11; refine HW.out.mono ?_; rintro e w1 ⟨rfl, hg1⟩)
    go_ret
    exact ⟨rfl, hg1⟩
  have hd1 : decide ((2000 : Int) < a.length) = false := by simp; omega
  have hd2 : decide ((2000 : Int) < b.length) = false := by simp; omega
  have HDF := Lib.hid (fun W (hg : w.grownBy W none) => diff_any _ _ a b W (HA.out.grown hg) (HB.out.grown hg) (by omega))
  go_enter Try.func7, Try.ntmps7
  go_wp2_with (first | (go_at_call 11; refine HW.out.mono ?_; go_must (rintro e w1 ⟨rfl, hg1⟩; have HG1 := Lib.hid hg1; clear hg1)) | (go_at_call 16; refine (HDF.out _ HG1.out).mono ?_; go_must (rintro e w2 ⟨cv, ps, rfl, hps, hc2, hg2⟩; have HPS := Lib.hid hps; have HC2 := Lib.hid hc2; have HG2 := Lib.hid (gb_same HG1.out hg2); obtain ⟨acv, ccv, rfl⟩ := hc2.slice; clear hps hc2 hg2)) | (go_at_call 22; refine (apply_any (.slice aa a.length ca) (.slice acv ps.length ccv) a b.length ps _ ((HA.out.grown HG2.out).grown (gb_alloc _ _ _)) (HC2.out.rd.grown (gb_alloc _ _ _))).mono ?_; go_must (rintro e w3 ⟨v3, er, rfl, hg3, hok, hno⟩; have HOK := Lib.hid hok; have HG3 := Lib.hid hg3; clear hok hno hg3)))
  have hb24 : b.length ≤ 24000 := by omega
  have hok : er = 0 ∧ Own w3 (w2.alloc (Obj.cells #[.int .i64 b.length, .slice acv ps.length ccv] 29)).heap.size v3 b := by
    have h := HOK.out (by rw [HPS.out]; exact valid_patch a b hb24)
    rw [HPS.out, Int.toNat_natCast, apply_diff] at h
    exact h
  obtain ⟨rfl, ho3⟩ := hok
  have hnl : (diffL a b).length = ps.length := by rw [← HPS.out, List.length_map]
  have hcap := HA.out.cap
  obtain ⟨a3, c3, rfl⟩ := ho3.rd.len
  have HO3 := Lib.hid ho3
  have HGF : Hid (w.grownBy w3 none) := Lib.hid (gb_same (gb_same HG2.out (gb_alloc _ _ _)) HG3.out)
  have hbx := blk_kept (heap_at_alloc w2 (Obj.cells #[.int .i64 b.length, .slice acv ps.length ccv] 29)) HG3.out
  have r0 : w3.cell? ⟨w2.heap.size, 0, none⟩ = some (.int .i64 b.length) := cell_row hbx
  have r1 : w3.cell? ⟨w2.heap.size, 1, none⟩ = some (.slice acv ps.length ccv) := cell_row hbx
  have hca := hcap.1
  have hcb := hcap.2
  clear ho3 hbx hcap HOK hb24
  have e3 := fun n => run_toString (w3.drewN n) _ b (HO3.out.rd.grown (gb_drewN _ _ _))
  have e1 := fun n => run_toString (w3.drewN n) _ b (HB.out.grown (gb_same HGF.out (gb_drewN _ _ _)))
  have HTK : Hid (∀ n, b.length ≤ a.length → (convert 22 9 (.slice aa b.length ca)).run Try.prog (w3.drewN n) = .ok (.string (str (a.take b.length))) (w3.drewN n)) := Lib.hid (fun n h => run_toString _ _ _ ((HA.out.grown (gb_same HGF.out (gb_drewN _ _ _))).take h))
  have hq := str_beq (a.take b.length) b
  rcases back_cases a b _ hnl with ⟨k1, k2⟩ | ⟨k1, k2, k3⟩ | ⟨k1, k2, k3, k4⟩ | ⟨k1, k2, k3, k4, k5⟩ | ⟨k1, k2, k3, k4, k5⟩
  · have kd : decide ((b.length : Int) ≤ a.length) = false := by simp; omega
    have kd2 : decide (b.length ≤ a.length) = false := by simp; omega
    clear hnl HPS
    go_quiet (fail)
    go_wp2
    go_ret
    exact ⟨rfl, gb_same HGF.out (gb_drewN _ _ _)⟩
  all_goals
    rw [k2] at hq
    have e2 := fun n => HTK.out n k1
    have kd : decide ((b.length : Int) ≤ a.length) = true := by simp; omega
    have kd2 : decide (b.length ≤ a.length) = true := by simp; omega
    clear hnl HPS
    go_quiet (fail)
    go_wp2
    go_ret
    exact ⟨rfl, gb_same HGF.out (gb_drewN _ _ _)⟩
end Go.Proofs.Ytnkgoaloigmmfaa
