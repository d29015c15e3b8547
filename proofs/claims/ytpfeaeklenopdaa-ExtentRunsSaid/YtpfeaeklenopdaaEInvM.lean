/-
  Runs and Indices are inverse, as functions on lists; no walk.
-/
import Derived.Test.YtpfeaeklenopdaaEIdx
namespace Go.Proofs.Ytpfeaeklenopdaa
open Go.RowKit

def nextL : Int → List ST → Int
  | a, [] => a
  | _, p :: rs => nextL (p.1 + p.2 + 1) rs
theorem okRuns_append : ∀ (rs ss : List ST) (a : Int), okRuns a (rs ++ ss) = (okRuns a rs && okRuns (nextL a rs) ss)
  | [], ss, a => by simp [okRuns, nextL]
  | p :: rs, ss, a => by
    rw [List.cons_append, okRuns, okRuns, nextL, okRuns_append rs ss]
    simp only [Bool.and_assoc]
theorem nextL_append : ∀ (rs ss : List ST) (a : Int), nextL a (rs ++ ss) = nextL (nextL a rs) ss
  | [], ss, a => rfl
  | p :: rs, ss, a => by rw [List.cons_append, nextL, nextL, nextL_append rs ss]
theorem expand_append : ∀ (rs ss : List ST), expand (rs ++ ss) = expand rs ++ expand ss
  | [], ss => rfl
  | p :: rs, ss => by rw [List.cons_append, expand, expand, expand_append rs ss, List.append_assoc]
theorem okRuns_one (a f n : Int) : okRuns a [(f, n)] = true ↔ a ≤ f ∧ 1 ≤ n ∧ n ≤ 1073741825 - f := by
  simp [okRuns]
theorem expand_one (f n : Int) : expand [(f, n)] = oneR (f, n) n.toNat := by simp [expand]
structure Inv (rs : List ST) (least : Int) : Prop where
  ok : okRuns 0 rs = true
  nx : (rs = [] ∧ least = 0) ∨ (rs ≠ [] ∧ nextL 0 rs = least + 1)
  lo : 0 ≤ least
  hi : least ≤ 1073741825
theorem Inv.nil : Inv [] 0 := ⟨rfl, .inl ⟨rfl, rfl⟩, by omega, by omega⟩
theorem Inv.app {rs : List ST} {least f n : Int} (h : Inv rs least) (h1 : nextL 0 rs ≤ f) (h2 : 1 ≤ n) (h3 : f + n ≤ 1073741825) (h0 : 0 ≤ f) : Inv (rs ++ [(f, n)]) (f + n) := by
  refine ⟨?_, .inr ⟨by simp, ?_⟩, by omega, h3⟩
  · rw [okRuns_append, h.ok, Bool.true_and, okRuns_one]
    omega
  · rw [nextL_append]
    rfl
theorem Inv.next {rs : List ST} {least : Int} (h : Inv rs least) (hne : rs ≠ []) : nextL 0 rs = least + 1 := by
  rcases h.nx with h1 | h1
  · exact absurd h1.1 hne
  · exact h1.2
theorem Inv.step {rs : List ST} {least z : Int} (h : Inv rs least) (h1 : ¬ z < least) (h2 : ¬ 1073741824 < z) : Inv (stepR rs least z) (z + 1) ∧ expand (stepR rs least z) = expand rs ++ [z] ∧ (stepR rs least z).length ≤ rs.length + 1 := by
  have hlo := h.lo
  by_cases hnil : rs = []
  · subst hnil
    rw [stepR_nil]
    refine ⟨Inv.app (rs := []) h (by show (0 : Int) ≤ z; omega) (by omega) (by omega) (by omega), ?_, by simp⟩
    rw [expand_one]
    simp [oneR, expand]
  · have hn := h.next hnil
    obtain ⟨rs', f, n, rfl⟩ := snoc_of hnil
    by_cases hz : z = least
    · subst hz
      rw [stepR_eq]
      have hok := h.ok
      rw [okRuns_append] at hok
      simp only [Bool.and_eq_true] at hok
      have h5 := (okRuns_one _ _ _).1 hok.2
      rw [nextL_append] at hn
      have h6 : f + n = z := by simp only [nextL] at hn; omega
      refine ⟨⟨?_, .inr ⟨by simp, ?_⟩, by omega, by omega⟩, ?_, by simp⟩
      · rw [okRuns_append, hok.1, Bool.true_and, okRuns_one]
        omega
      · rw [nextL_append]
        simp only [nextL]
        omega
      · rw [expand_append, expand_append, expand_one, expand_one, List.append_assoc]
        congr 1
        obtain ⟨N, rfl⟩ := Int.eq_ofNat_of_zero_le (show 0 ≤ n by omega)
        rw [show ((N : Int) + 1).toNat = N + 1 by omega, Int.toNat_natCast, show oneR (f, (N : Int) + 1) (N + 1) = oneR (f, (N : Int)) (N + 1) from rfl, oneR_snoc]
        simp only
        rw [h6]
    · rw [stepR_ne _ _ _ hz]
      refine ⟨Inv.app h (by rw [hn]; omega) (by omega) (by omega) (by omega), ?_, by simp⟩
      rw [expand_append (rs' ++ [(f, n)]), expand_one]
      simp [oneR]
theorem runsGo_ok : ∀ {zs : List Int} {rs rs2 : List ST} {least : Int}, Inv rs least → runsGo rs least zs = .ok rs2 → okRuns 0 rs2 = true ∧ expand rs2 = expand rs ++ zs ∧ rs2.length ≤ rs.length + zs.length
  | [], rs, rs2, least, h, he => by
    rw [runsGo] at he
    cases he
    exact ⟨h.ok, by simp, by simp⟩
  | z :: zs, rs, rs2, least, h, he => by
    rw [runsGo] at he
    split at he
    · cases he
    · rename_i hc
      obtain ⟨h1, h2, h3⟩ := h.step (z := z) (by omega) (by omega)
      obtain ⟨k1, k2, k3⟩ := runsGo_ok h1 he
      refine ⟨k1, ?_, by simp; omega⟩
      rw [k2, h2, List.append_assoc]
      rfl
theorem runs_then {zs : List Int} {rs : List ST} (h : runsS zs = .ok rs) : idxS rs = .ok zs ∧ rs.length ≤ zs.length ∧ zs.length ≤ 4096 ∧ ∀ p ∈ rs, OkT p := by
  unfold runsS at h
  split at h
  · cases h
  · rename_i hl
    obtain ⟨h1, h2, h3⟩ := runsGo_ok Inv.nil h
    have h4 := okRuns_mem (Int.le_refl 0) h1
    have h5 := expand_len h4
    rw [h2] at h5
    simp only [expand, List.nil_append] at h5 h2
    refine ⟨?_, by simpa using h3, by omega, fun p hp => ?_⟩
    · unfold idxS
      rw [if_pos h1, if_neg (by omega), h2]
    · have := h4 p hp
      unfold OkT OkI
      omega
theorem go_more (acc : List ST) (f : Int) (tail : List Int) : ∀ (m k : Nat), 1 ≤ k → f + (k : Int) + (m : Int) ≤ 1073741825 → runsGo (acc ++ [(f, (k : Int))]) (f + (k : Int)) ((List.range' k m).map (fun j : Nat => f + (j : Int)) ++ tail) = runsGo (acc ++ [(f, ((k + m : Nat) : Int))]) (f + ((k + m : Nat) : Int)) tail
  | 0, k, _, _ => by simp
  | m + 1, k, hk, hm => by
    rw [List.range'_succ, List.map_cons, List.cons_append, runsGo, if_neg (by omega), stepR_eq]
    have := go_more acc f tail m (k + 1) (by omega) (by omega)
    rw [show ((k : Int) + 1) = ((k + 1 : Nat) : Int) by omega, show f + (k : Int) + 1 = f + ((k + 1 : Nat) : Int) by omega, this, show k + 1 + m = k + (m + 1) by omega]
theorem go_run {acc : List ST} {least f : Int} {N : Nat} (h : Inv acc least) (h0 : nextL 0 acc ≤ f) (hf : 0 ≤ f) (h1 : 1 ≤ N) (h2 : f + (N : Int) ≤ 1073741825) (tail : List Int) : runsGo acc least (oneR (f, (N : Int)) N ++ tail) = runsGo (acc ++ [(f, (N : Int))]) (f + (N : Int)) tail := by
  obtain ⟨m, rfl⟩ : ∃ m, N = m + 1 := ⟨N - 1, by omega⟩
  have e : oneR (f, ((m + 1 : Nat) : Int)) (m + 1) = f :: (List.range' 1 m).map (fun j : Nat => f + (j : Int)) := by
    unfold oneR
    rw [List.range_eq_range', List.range'_succ, List.map_cons]
    simp
  have hs : stepR acc least f = acc ++ [(f, ((1 : Nat) : Int))] ∧ ¬ f < least := by
    by_cases hnil : acc = []
    · subst hnil
      refine ⟨rfl, ?_⟩
      rcases h.nx with h3 | h3
      · omega
      · exact absurd rfl h3.1
    · have hn := h.next hnil
      obtain ⟨rs', f', n', rfl⟩ := snoc_of hnil
      exact ⟨stepR_ne _ _ _ (by omega), by omega⟩
  rw [e, List.cons_append, runsGo, if_neg (by omega), hs.1]
  have := go_more acc f tail m 1 (by omega) (by omega)
  rw [show f + 1 = f + ((1 : Nat) : Int) by omega, this, Nat.add_comm 1 m]
theorem go_expand : ∀ {rs acc : List ST} {least : Int}, Inv acc least → okRuns (nextL 0 acc) rs = true → 0 ≤ nextL 0 acc → runsGo acc least (expand rs) = .ok (acc ++ rs)
  | [], acc, least, _, _, _ => by simp [expand, runsGo]
  | (f, n) :: rs, acc, least, h, hok, h0 => by
    rw [okRuns] at hok
    simp only [Bool.and_eq_true, decide_eq_true_eq] at hok
    obtain ⟨g1, g2, g3, g4⟩ := hok
    obtain ⟨N, rfl⟩ := Int.eq_ofNat_of_zero_le (show 0 ≤ n by omega)
    rw [expand]
    simp only [Int.toNat_natCast]
    have hN : f + (N : Int) ≤ 1073741825 := by omega
    rw [go_run h g1 (by omega) (by omega) hN]
    have h5 := Inv.app h g1 g2 hN (by omega)
    have h6 : nextL 0 (acc ++ [(f, (N : Int))]) = f + (N : Int) + 1 := by rw [nextL_append]; rfl
    rw [go_expand h5 (by rw [h6]; exact g4) (by rw [h6]; omega), List.append_assoc]
    rfl
theorem idx_then {rs : List ST} {zs : List Int} (h : idxS rs = .ok zs) : runsS zs = .ok rs ∧ zs.length ≤ 4096 := by
  unfold idxS at h
  split at h
  · rename_i hok
    split at h
    · cases h
    · rename_i hb
      cases h
      have h5 := expand_len (okRuns_mem (Int.le_refl 0) hok)
      refine ⟨?_, by omega⟩
      unfold runsS
      rw [if_neg (by omega)]
      exact go_expand Inv.nil hok (Int.le_refl 0)
  · cases h
end Go.Proofs.Ytpfeaeklenopdaa
