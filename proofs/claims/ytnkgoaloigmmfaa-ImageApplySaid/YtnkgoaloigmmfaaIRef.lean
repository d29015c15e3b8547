/-
  The reference's Count, Size and Page: the walks.
-/
import Derived.Test.YtnkgoaloigmmfaaIPag
namespace Go.Proofs.Ytnkgoaloigmmfaa
open Go.RowKit

theorem rcount_any (n : Int) (w : World) (h1 : -9223372036854775808 ≤ n) (h2 : n ≤ 9223372036854775807) :
    Calls Try.prog 14 #[.int .i64 n] w fun e w' => e = .returned (.int .i64 (cntI n)) ∧ w = w' := by
  by_cases h0 : n ≤ 0
  · go_enter Try.func14, Try.ntmps14
    go_wp2
    go_ret
    exact ⟨by unfold cntI; rw [if_pos h0]; rfl, rfl⟩
  · have h3 : 1 ≤ n := by omega
    go_enter Try.func14, Try.ntmps14
    go_wp2
    go_ret
    exact ⟨congrArg (fun z => Ending.returned (.int .i64 z)) (by unfold cntI; rw [if_neg (by omega)]), rfl⟩

theorem rsize_any (n : Nat) (k : Int) (w : World) (h2 : (n : Int) ≤ 9223372036854775807) (h3 : -9223372036854775808 ≤ k) (h4 : k ≤ 9223372036854775807) :
    Calls Try.prog 31 #[.int .i64 (n : Int), .int .i64 k] w fun e w' => e = .returned (.int .i64 (szN n k : Int)) ∧ w = w' := by
  have HC := Lib.hid (rcount_any n w (by omega) h2)
  by_cases h0 : k < 0
  · go_enter Try.func31, Try.ntmps31
    go_wp2
    go_ret
    exact ⟨by rw [szN_zero (.inl h0)]; rfl, rfl⟩
  · by_cases h1 : cntI n ≤ k
    · have hd : decide (cntI n ≤ k) = true := by simpa using h1
      have HZ := Lib.hid (szN_zero (n := n) (.inr h1))
      go_enter Try.func31, Try.ntmps31
      go_wp2_with (go_at_call 14; refine HC.out.mono ?_; rintro e w' ⟨rfl, rfl⟩)
      go_ret
      exact ⟨by rw [HZ.out]; rfl, rfl⟩
    · obtain ⟨e1, e2, e3⟩ := szN_pos (n := n) (k := k) (by omega) (by omega)
      have hcn : cntI n = ((n : Int) - 1) / 128 + 1 := by unfold cntI; rw [if_neg (by omega)]
      have h5 : k < cntI n := by omega
      have h6 : 0 ≤ k := by omega
      have h7 : k * 128 < n := by omega
      have h8 : cntI n ≤ n := cntI_le n (by omega)
      have h9 : 1 ≤ cntI n := by omega
      by_cases hk : k = cntI n - 1
      · have HZ : Hid (szN n k = n - k.toNat * 128) := Lib.hid (by rw [e1]; omega)
        have hd : (k == cntI n - 1) = true := by simpa using hk
        clear e1 e2 e3 hcn hk h0 h1
        go_enter Try.func31, Try.ntmps31
        go_wp2_with (go_at_call 14; refine HC.out.mono ?_; rintro e w' ⟨rfl, rfl⟩)
        go_ret
        refine ⟨congrArg (fun z => Ending.returned (.int .i64 z)) ?_, rfl⟩
        rw [HZ.out]; omega
      · have HZ : Hid (szN n k = 128) := Lib.hid (by rw [e1]; omega)
        have hd : (k == cntI n - 1) = false := by simpa using hk
        clear e1 e2 e3 hcn hk h0 h1
        go_enter Try.func31, Try.ntmps31
        go_wp2_with (go_at_call 14; refine HC.out.mono ?_; rintro e w' ⟨rfl, rfl⟩)
        go_ret
        refine ⟨congrArg (fun z => Ending.returned (.int .i64 z)) ?_, rfl⟩
        rw [HZ.out]; rfl

set_option maxRecDepth 100000 in
theorem rpage_any (v : Value) (l : List UInt8) (k : Int) (w : World) (hv : Rd w v l) (h3 : -9223372036854775808 ≤ k) (h4 : k ≤ 9223372036854775807) :
    Calls Try.prog 15 #[v, .int .i64 k] w (OwnP w (pg l k)) := by
  have hs := hv.small
  have HC := Lib.hid (fun W => rsize_any l.length k W hs h3 h4)
  have HV := Lib.hid hv
  have hpl := pg_len l k
  by_cases hz : szN l.length k = 0
  · obtain ⟨a, c, rfl⟩ := hv.len
    have hn : pg l k = [] := List.eq_nil_of_length_eq_zero (by rw [hpl, hz])
    rw [hn]
    rw [hz] at HC
    clear hz hv hpl hn
    go_enter Try.func15, Try.ntmps15
    go_wp2_with (go_at_call 31; refine (HC.out _).mono ?_; rintro e w' ⟨rfl, rfl⟩)
    go_ret
    exact ⟨_, rfl, Own.nil _ _, gb_refl _ _⟩
  · have hk : 0 ≤ k ∧ k < cntI l.length := ⟨Int.not_lt.1 (fun h => hz (szN_zero (.inl h))), Int.not_le.1 (fun h => hz (szN_zero (.inr h)))⟩
    obtain ⟨e1, e2, e3⟩ := szN_pos hk.1 hk.2
    obtain ⟨m, rfl⟩ := Int.eq_ofNat_of_zero_le hk.1
    obtain ⟨b, off, cap, rfl⟩ : ∃ b off cap, v = .slice (some ⟨b, off, none⟩) l.length cap := by
      rcases hv with ⟨rfl, rfl⟩ | ⟨b, off, cap, rfl, _⟩
      · simp at e3
      · exact ⟨b, off, cap, rfl⟩
    have hcp : l.length ≤ cap ∧ cap ≤ maxLen := by
      rcases hv with ⟨h0, _⟩ | ⟨_, _, _, h0, h1, h2, _⟩
      · cases h0
      · cases h0; exact ⟨h1, h2⟩
    have hcut := cutV_rd hv m
    rw [cutV_at, if_neg hz] at hcut
    simp only [Int.toNat_natCast] at e1 e3 hcut
    obtain ⟨n, hn⟩ : ∃ n, szN l.length (m : Int) = n := ⟨_, rfl⟩
    rw [hn] at HC hcut e1 e2 hpl hz
    have h5 : m * 128 + n ≤ l.length := by omega
    have h7 : m * 128 + n ≤ cap := by omega
    have h8 : m * 128 ≤ m * 128 + n := by omega
    have h9 : ((n : Int) == 0) = false := by simp; omega
    have h6 : n ≤ 128 := by omega
    have h12 : m * 128 < cap := by omega
    have h13 : ¬ cap = m * 128 := by omega
    have h14 : ¬ m * 128 = cap := by omega
    have hrd : ∀ c, n ≤ c → c ≤ maxLen → Rd w (.slice (some ⟨b, off + m * 128, none⟩) n c) (pg l m) := fun c hc1 hc2 => by
      rcases hcut with ⟨h0, _⟩ | ⟨b', off', cap', h0, h1, h2, h3⟩
      · cases h0
      · cases h0; exact .inr ⟨_, _, c, by rw [hpl], by rw [hpl]; exact hc1, hc2, h3⟩
    have h10 := hcp.2
    have HRD : Hid (∀ c, n ≤ c → c ≤ maxLen → Rd w (.slice (some ⟨b, off + m * 128, none⟩) (m * 128 + n - m * 128) c) (pg l m)) := Lib.hid (by rw [show m * 128 + n - m * 128 = n by omega]; exact hrd)
    have HPL := Lib.hid hpl
    have HO := Lib.hid (Own.lit w #[] [] 0 w.heap.size rfl rfl (Nat.le_refl _) (Nat.zero_le _))
    unfold maxLen at h10
    have HCC : Hid (n ≤ cap - m * 128 ∧ cap - m * 128 ≤ maxLen) := Lib.hid (by unfold maxLen; omega)
    clear e1 e2 e3 hz hk hcp hcut hn hv hpl hrd h3 h4
    go_enter Try.func15, Try.ntmps15
    go_wp2_with (first | (go_at_call 31; refine (HC.out _).mono ?_; rintro e w' ⟨rfl, rfl⟩) | (at_builtin; refine app_bytes rfl _ _ rfl w.heap.size _ _ [] (pg l m) rfl rfl HO.out ((HRD.out _ HCC.out.1 HCC.out.2).grown (gb_alloc _ _ _)) (by simp) (by have := HPL.out; simp; omega) ?_; go_must (intro v2 w2 ho2 hg2 hf2; rw [List.nil_append] at ho2)))
    go_ret
    exact ⟨_, rfl, ho2, gb_trans (gb_alloc _ _ none) hg2 (fun k hk => .inr (HO.out.lt k hk).1)⟩
end Go.Proofs.Ytnkgoaloigmmfaa
