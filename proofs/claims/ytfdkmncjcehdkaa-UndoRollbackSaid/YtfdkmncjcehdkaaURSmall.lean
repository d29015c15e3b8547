/-
  The reference's Proper, Sized, Written, Taken: the walks.
-/
import Derived.Test.YtfdkmncjcehdkaaUAwake
namespace Go.Proofs.Ytfdkmncjcehdkaa
open Go.RowKit

set_option maxRecDepth 100000 in
theorem proper_any (r : RT) (v : Value) (w : World) (hv : RdW w v r.2.2) (h0 : -9223372036854775808 ≤ r.1 ∧ r.1 ≤ 9223372036854775807) :
    Calls Try.prog 40 #[.agg #[.int .i64 r.1, .int .i64 r.2.1, v]] w (BoolR (okR r) w) := by
  have hs := hv.small
  obtain ⟨a, c, rfl⟩ := hv.len
  obtain ⟨o, L, l⟩ := r
  simp only at *
  clear hv
  by_cases h1 : 0 ≤ L
  · by_cases h2 : L ≤ 24000
    · by_cases h3 : 0 ≤ o
      · by_cases h4 : o ≤ L
        · by_cases h5 : (l.length : Int) ≤ L - o
          · have HE : Hid (okR (o, L, l) = true) := Lib.hid (by unfold okR; simp only [decide_eq_true_eq]; omega)
            go_enter Try.func40, Try.ntmps40
            go_wp2
            go_ret
            exact ⟨by rw [HE.out]; rfl, gb_alloc _ _ _⟩
          · have HE : Hid (okR (o, L, l) = false) := Lib.hid (by unfold okR; simp only [decide_eq_false_iff_not]; omega)
            go_enter Try.func40, Try.ntmps40
            go_wp2
            go_ret
            exact ⟨by rw [HE.out]; rfl, gb_alloc _ _ _⟩
        · have HE : Hid (okR (o, L, l) = false) := Lib.hid (by unfold okR; simp only [decide_eq_false_iff_not]; omega)
          go_enter Try.func40, Try.ntmps40
          go_wp2
          go_ret
          exact ⟨by rw [HE.out]; rfl, gb_alloc _ _ _⟩
      · have HE : Hid (okR (o, L, l) = false) := Lib.hid (by unfold okR; simp only [decide_eq_false_iff_not]; omega)
        go_enter Try.func40, Try.ntmps40
        go_wp2
        go_ret
        exact ⟨by rw [HE.out]; rfl, gb_alloc _ _ _⟩
    · have HE : Hid (okR (o, L, l) = false) := Lib.hid (by unfold okR; simp only [decide_eq_false_iff_not]; omega)
      go_enter Try.func40, Try.ntmps40
      go_wp2
      go_ret
      exact ⟨by rw [HE.out]; rfl, gb_alloc _ _ _⟩
  · have HE : Hid (okR (o, L, l) = false) := Lib.hid (by unfold okR; simp only [decide_eq_false_iff_not]; omega)
    go_enter Try.func40, Try.ntmps40
    go_wp2
    go_ret
    exact ⟨by rw [HE.out]; rfl, gb_alloc _ _ _⟩

def lenV : Value → Nat
  | .slice _ n _ => n
  | _ => 0
set_option maxRecDepth 100000 in
set_option maxHeartbeats 1000000 in
theorem rsized_any (v : Value) (l : List UInt8) (n : Nat) (w : World) (hv : Rd w v l) (hl : l.length ≤ 1099511627776) (hn : n ≤ 24000) :
    Calls Try.prog 58 #[v, .int .i64 (n : Int)] w (OwnP w (sized l n)) := by
  have HV := Lib.hid hv
  obtain ⟨a, c, rfl⟩ := hv.len
  have HO := Lib.hid (Own.lit w #[] [] 0 w.heap.size rfl rfl (Nat.le_refl _) (Nat.zero_le _))
  clear hv
  go_enter Try.func58, Try.ntmps58
  go_wp2_with (at_builtin; refine app_bytes rfl _ _ rfl w.heap.size _ _ [] l rfl rfl HO.out (HV.out.grown (gb_alloc _ _ _)) (by simp) (by simp; omega) ?_; go_must (intro v2 w2 ho2 hg2 hf2; rw [List.nil_append] at ho2; have HO2 := Lib.hid ho2; have HG2 : Hid (w.grownBy w2 none) := Lib.hid (gb_trans (gb_alloc _ _ none) hg2 (fun k hk => .inr (HO.out.lt k hk).1)); clear ho2 hg2 hf2))
  go_loopw [5] (fun v wr => ∃ j : Nat, (j = 0 ∨ l.length + j ≤ n) ∧ Hid (Own wr w.heap.size v (l ++ List.replicate j 0)) ∧ Hid (w.grownBy wr none)) (fun v _ => n - lenV v)
  case atStart => exact ⟨0, .inl rfl, Lib.hid (by simpa using HO2.out), HG2⟩
  case round =>
    obtain ⟨j, hj, HC, HG⟩ := hrel
    have hlen : (l ++ List.replicate j 0).length = l.length + j := by simp
    obtain ⟨av, cv, hv⟩ := HC.out.rd.len
    rw [hlen] at hv
    subst hv
    have HLEN := Lib.hid hlen
    clear hlen
    by_cases hlt : l.length + j < n
    · have hd : decide (((l.length + j : Nat) : Int) < n) = true := by simp; omega
      have HRX := Lib.hid (fun W (hW : wr.grownBy W none) => HC.out.grown hW)
      have HZ := Lib.hid (Rd.lit1 wr 0 5)
      go_wp2_with (at_builtin; refine app_bytes rfl _ _ rfl w.heap.size _ _ (l ++ List.replicate j 0) [0] rfl rfl (HRX.out _ (gb_alloc _ _ _)) HZ.out (by have := HG.out.size; simp; omega) (by rw [HLEN.out]; simp; omega) ?_; go_must (intro v3 w3 ho3 hg3 hf3; have HO3 := Lib.hid ho3; have HG3 : Hid (w.grownBy w3 none) := Lib.hid (gb_trans (gb_same HG.out (gb_alloc _ _ none)) hg3 (fun k hk => .inr (HC.out.lt k hk).1)); clear ho3 hg3 hf3))
      have e : l ++ List.replicate j 0 ++ [0] = l ++ List.replicate (j + 1) (0 : UInt8) := by rw [List.append_assoc, List.replicate_succ']
      have ho := HO3.out
      rw [e] at ho
      obtain ⟨a3, c3, h3⟩ := ho.rd.len
      refine ⟨⟨j + 1, .inr (by omega), Lib.hid ho, HG3⟩, ?_⟩
      rw [h3]
      simp [lenV]
      omega
    · have hd : decide (((l.length + j : Nat) : Int) < n) = false := by simp; omega
      have hcase : n ≤ l.length + j := by omega
      have hs := HC.out.rd.small
      have hcap : n ≤ cv ∧ (cv : Int) ≤ 9223372036854775807 := by
        rcases HC.out.2 with ⟨h0, hn0⟩ | ⟨g, cap, cu, h0, _, _, hnc, hcm, _⟩
        · rw [HLEN.out] at hn0; simp only [Value.slice.injEq] at h0; omega
        · rw [HLEN.out] at hnc; simp only [Value.slice.injEq] at h0; simp only [maxLen] at hcm; omega
      obtain ⟨hc1, hc2⟩ := hcap
      have HT := Lib.hid (HC.out.take (m := n) (by rw [HLEN.out]; exact hcase))
      have HE : Hid (sized l n = (l ++ List.replicate j 0).take n) := Lib.hid (by
        unfold sized
        rcases hj with rfl | hj
        · rw [if_pos (by omega)]; simp
        · split
          · rename_i h9
            rw [List.take_append_of_le_length h9]
          · have : n = l.length + j := by omega
            subst this
            rw [List.take_of_length_le (by simp)]
            simp)
      clear hs hj
      go_wp2
      go_ret
      exact ⟨.slice av n cv, rfl, by rw [HE.out]; exact HT.out, HG.out⟩
end Go.Proofs.Ytfdkmncjcehdkaa
