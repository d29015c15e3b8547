/-
  The reference's Find and Valid: the walks.
-/
import Derived.Test.YtnkgoaloigmmfaaIRDiff
namespace Go.Proofs.Ytnkgoaloigmmfaa
open Go.RowKit

/-- the place of the change of a page -/
def fnd (k : Int) : List CT → Option Nat
  | [] => none
  | c :: cs => if c.1 = k then some 0 else (fnd k cs).map (· + 1)
theorem fnd_none {k : Int} : ∀ {cs : List CT}, (∀ c ∈ cs, c.1 ≠ k) → fnd k cs = none
  | [], _ => rfl
  | c :: cs, h => by rw [fnd, if_neg (h c (by simp)), fnd_none (fun d hd => h d (by simp [hd]))]; rfl
theorem fnd_some {k : Int} : ∀ {cs : List CT} {j : Nat} {c : CT}, cs[j]? = some c → c.1 = k → (∀ i, i < j → ∀ d, cs[i]? = some d → d.1 ≠ k) → fnd k cs = some j
  | [], j, c, h, _, _ => by simp at h
  | d :: cs, 0, c, h, hc, _ => by simp at h; subst h; rw [fnd, if_pos hc]
  | d :: cs, j + 1, c, h, hc, hn => by
    rw [fnd, if_neg (hn 0 (by omega) d rfl), fnd_some (cs := cs) (j := j) (by simpa using h) hc (fun i hi e he => hn (i + 1) (by omega) e (by simpa using he))]
    rfl
theorem fnd_spec {k : Int} : ∀ {cs : List CT} {j : Nat}, fnd k cs = some j → ∃ c, cs[j]? = some c ∧ c.1 = k
  | [], j, h => by simp [fnd] at h
  | d :: cs, j, h => by
    unfold fnd at h
    split at h
    · rename_i hd
      cases h
      exact ⟨d, rfl, hd⟩
    · cases hf : fnd k cs with
      | none => rw [hf] at h; cases h
      | some i =>
        rw [hf] at h
        cases h
        obtain ⟨c, h1, h2⟩ := fnd_spec hf
        exact ⟨c, by simpa using h1, h2⟩
theorem fnd_get : ∀ (cs : List CT) (k : Nat), findC cs k = (fnd (k : Int) cs).bind (fun j => (cs[j]?).map (·.2))
  | [], k => rfl
  | c :: cs, k => by
    have ih := fnd_get cs k
    unfold findC at ih ⊢
    rw [List.find?_cons, fnd]
    by_cases h : c.1 = (k : Int)
    · rw [if_pos h, beq_iff_eq.2 h]; rfl
    · rw [if_neg h, beq_eq_false_iff_ne.2 h]
      rw [ih]
      cases fnd (k : Int) cs <;> simp
def findI (k : Int) (cs : List CT) : Int := match fnd k cs with | some j => (j : Int) | none => -1

set_option maxRecDepth 100000 in
set_option maxHeartbeats 4000000 in
theorem rfind_any (v : Value) (ps : List ChP) (k : Int) (w : World) (h : RdCs w v ps) :
    Calls Try.prog 34 #[v, .int .i64 k] w fun e w' => e = .returned (.int .i64 (findI k (ps.map (·.1)))) ∧ w = w' := by
  have hs := h.small
  obtain ⟨a, c, rfl⟩ := h.len
  have HR := Lib.hid h
  clear h
  go_enter Try.func34, Try.ntmps34
  go_wp2
  go_loop [5] (fun i => ∃ j : Nat, j ≤ ps.length ∧ i = .int .i64 j ∧ Hid (∀ i, i < j → ∀ d, (ps.map (·.1))[i]? = some d → d.1 ≠ k)) (fun i => ps.length - (intOf i).toNat)
  case atStart => exact ⟨0, Nat.zero_le _, rfl, Lib.hid (fun i hi => by omega)⟩
  case round =>
    obtain ⟨j, hj, rfl, HN⟩ := hrel
    by_cases hlt : j < ps.length
    · obtain ⟨p, hp⟩ : ∃ p, ps[j]? = some p := ⟨ps[j], by simp [hlt]⟩
      obtain ⟨b, off, rfl, q0, q1⟩ := HR.out.at hp
      have hp1 : (ps.map (·.1))[j]? = some p.1 := by rw [List.getElem?_map, hp]; rfl
      have HP := Lib.hid hp1
      clear hp hp1 q1
      by_cases hk : p.1.1 = k
      · have hkb : (p.1.1 == k) = true := by simpa using hk
        have HF : Hid (findI k (ps.map (·.1)) = (j : Int)) := Lib.hid (by unfold findI; rw [fnd_some HP.out hk HN.out])
        clear hk
        go_wp2
        go_ret
        exact ⟨by rw [HF.out]; rfl, rfl⟩
      · have hkb : (p.1.1 == k) = false := by simpa using hk
        have HN2 : Hid (∀ i, i < j + 1 → ∀ d, (ps.map (·.1))[i]? = some d → d.1 ≠ k) := Lib.hid (fun i hi d hd => by
          by_cases e : i = j
          · subst e; rw [HP.out] at hd; cases hd; exact hk
          · exact HN.out i (by omega) d hd)
        clear hk
        go_wp2
        go_round
        case rel => exact ⟨j + 1, by omega, by go_num, HN2⟩
        case measure => simp [intOf]; omega
    · obtain rfl : j = ps.length := by omega
      have HF : Hid (findI k (ps.map (·.1)) = -1) := Lib.hid (by
        unfold findI
        rw [fnd_none (fun c hc => ?_)]
        obtain ⟨i, hi⟩ := List.getElem?_of_mem hc
        have hlt : i < (ps.map (·.1)).length := (List.getElem?_eq_some_iff.1 hi).1
        rw [List.length_map] at hlt
        exact HN.out i hlt c hi)
      go_wp2
      go_ret
      exact ⟨by rw [HF.out]; rfl, rfl⟩

/-- the converse of validN_spec -/
theorem vgo_all {n L : Nat} {cs : List CT} (h1 : ∀ c ∈ cs, OkC L c) (h2 : cs.Pairwise (fun c d => c.1 < d.1)) (h3 : ∀ j : Nat, j < (cntI L).toNat → szN n (j : Int) ≠ szN L (j : Int) → ∃ c ∈ cs, c.1 = j) :
    ∀ k, k ≤ (cntI L).toNat → ∃ pre rest, cs = pre ++ rest ∧ (∀ c ∈ pre, c.1 < (k : Int)) ∧ (∀ c ∈ rest, (k : Int) ≤ c.1) ∧ vgo n L cs k = some rest
  | 0, _ => ⟨[], cs, rfl, by simp, fun c hc => by obtain ⟨j, e, _⟩ := h1 c hc; omega, by simp [vgo]⟩
  | k + 1, hk => by
    obtain ⟨pre, rest, e, hp, hr, hv⟩ := vgo_all h1 h2 h3 k (by omega)
    rw [vgo_succ, hv]
    show ∃ pre rest, _ ∧ _ ∧ _ ∧ vst n L k _ = some rest
    have nocov : (∀ c ∈ rest, c.1 ≠ (k : Int)) → szN n (k : Int) = szN L (k : Int) := fun hno => by
      apply Classical.byContradiction
      intro hne
      obtain ⟨c, hc, hck⟩ := h3 k (by omega) hne
      rw [e] at hc
      rcases List.mem_append.1 hc with hc | hc
      · have := hp c hc; omega
      · exact hno c hc hck
    have hpw := h2
    rw [e, List.pairwise_append] at hpw
    cases rest with
    | nil =>
      have hs := nocov (by simp)
      exact ⟨pre, [], e, fun c hc => by have := hp c hc; omega, by simp, by simp only [vst]; rw [if_pos hs]⟩
    | cons c r =>
      have hgt := (List.pairwise_cons.1 hpw.2.1).1
      by_cases hck : c.1 = (k : Int)
      · obtain ⟨j, e1, e2, e3⟩ := h1 c (by rw [e]; simp)
        have hjk : j = k := by omega
        subst hjk
        refine ⟨pre ++ [c], r, by rw [e]; simp, fun d hd => ?_, fun d hd => by have := hgt d hd; omega, by simp only [vst]; rw [if_pos hck, if_pos e3]⟩
        rcases List.mem_append.1 hd with hd | hd
        · have := hp d hd; omega
        · simp at hd; subst hd; omega
      · have hck2 := hr c (by simp)
        have hs := nocov (fun d hd => by
          rcases List.mem_cons.1 hd with rfl | hd
          · exact hck
          · have := hgt d hd; omega)
        refine ⟨pre, c :: r, e, fun d hd => by have := hp d hd; omega, fun d hd => ?_, by simp only [vst]; rw [if_neg hck, if_pos hs]⟩
        rcases List.mem_cons.1 hd with rfl | hd
        · omega
        · have := hgt d hd; omega
theorem validN_of {n L : Nat} {cs : List CT} (h1 : ∀ c ∈ cs, OkC L c) (h2 : cs.Pairwise (fun c d => c.1 < d.1)) (h3 : ∀ j : Nat, j < (cntI L).toNat → szN n (j : Int) ≠ szN L (j : Int) → ∃ c ∈ cs, c.1 = j) : validN n L cs = true := by
  obtain ⟨pre, rest, e, hp, hr, hv⟩ := vgo_all h1 h2 h3 (cntI L).toNat (Nat.le_refl _)
  have : rest = [] := by
    cases rest with
    | nil => rfl
    | cons c r =>
      obtain ⟨j, e1, e2, _⟩ := h1 c (by rw [e]; simp)
      have := hr c (by simp)
      omega
  subst this
  unfold validN
  rw [hv]
theorem validN_no {n L : Nat} {cs : List CT} (h : ¬ ((∀ c ∈ cs, OkC L c) ∧ cs.Pairwise (fun c d => c.1 < d.1) ∧ ∀ j : Nat, szN n (j : Int) ≠ szN L (j : Int) → j < (cntI L).toNat → ∃ c ∈ cs, c.1 = j)) : validN n L cs = false := by
  cases hv : validN n L cs with
  | false => rfl
  | true => exact absurd (validN_spec hv) h
end Go.Proofs.Ytnkgoaloigmmfaa
