/-
  Patches and images: the plain mathematics of Valid, Apply and Diff.
-/
import Derived.Test.YtnkgoaloigmmfaaIValid
namespace Go.Proofs.Ytnkgoaloigmmfaa
open Go.RowKit

theorem szN_nat (n k : Nat) : szN n (k : Int) = min (n - k * 128) 128 := by unfold szN; rw [if_neg (by omega), Int.toNat_natCast]
theorem pg_len' (l : List UInt8) (k : Nat) : (pg l (k : Int)).length = szN l.length (k : Int) := pg_len l k
theorem get_pg (l : List UInt8) (i : Nat) : (pg l ((i / 128 : Nat) : Int))[i % 128]? = l[i]? := by
  rw [pg_get, if_pos (Nat.mod_lt _ (by omega)), show i / 128 * 128 + i % 128 = i by omega]
theorem pages_ext {x y : List UInt8} (h : ∀ k : Nat, pg x (k : Int) = pg y (k : Int)) : x = y := by
  apply List.ext_getElem?
  intro i
  rw [← get_pg x, h, get_pg y]
theorem pg_out {l : List UInt8} {k : Nat} (h : (l.length + 127) / 128 ≤ k) : pg l (k : Int) = [] := by
  apply List.eq_nil_of_length_eq_zero
  rw [pg_len', szN_nat]; omega

/-- an image with a page put in -/
def putPg (cur : List UInt8) (c : CT) : List UInt8 := cur.take (c.1.toNat * 128) ++ (c.2 ++ cur.drop (c.1.toNat * 128 + c.2.length))
/-- an image cut or filled up with zeros -/
def base (a : List UInt8) (L : Nat) : List UInt8 := a.take L ++ List.replicate (L - a.length) 0
def applyL (a : List UInt8) (L : Nat) (cs : List CT) : List UInt8 := cs.foldl putPg (base a L)
theorem base_len (a : List UInt8) (L : Nat) : (base a L).length = L := by
  unfold base; rw [List.length_append, List.length_take, List.length_replicate]; omega
/-- a change of a page of an image of L bytes -/
def OkC (L : Nat) (c : CT) : Prop := ∃ j : Nat, c.1 = j ∧ j < (cntI L).toNat ∧ c.2.length = szN L (j : Int)
theorem OkC.fit {L : Nat} {c : CT} (h : OkC L c) : c.1.toNat * 128 + c.2.length ≤ L ∧ 0 < c.2.length := by
  obtain ⟨j, h1, h2, h3⟩ := h
  rw [h1, h3, szN_nat, Int.toNat_natCast]
  rw [cnt_toNat] at h2
  omega
theorem putPg_len {cur : List UInt8} {L : Nat} {c : CT} (hl : cur.length = L) (h : OkC L c) : (putPg cur c).length = L := by
  have := h.fit
  unfold putPg
  simp only [List.length_append, List.length_take, List.length_drop]
  omega
theorem pg_put {cur : List UInt8} {L : Nat} {c : CT} (hl : cur.length = L) (h : OkC L c) (k : Nat) : pg (putPg cur c) (k : Int) = if c.1 = k then c.2 else pg cur (k : Int) := by
  obtain ⟨j, h1, h2, h3⟩ := h
  rw [szN_nat] at h3
  rw [cnt_toNat] at h2
  have hj : c.1.toNat = j := by rw [h1]; simp
  have hs : (cur.take (j * 128)).length = j * 128 := by rw [List.length_take]; omega
  unfold putPg
  rw [hj]
  apply List.ext_getElem?
  intro i
  rw [pg_get]
  by_cases hk : c.1 = k
  · have hkj : k = j := by omega
    subst hkj
    rw [if_pos hk]
    by_cases hi : i < 128
    · rw [if_pos hi]
      rw [List.getElem?_append_right (by omega), hs, show k * 128 + i - k * 128 = i by omega]
      by_cases hi2 : i < c.2.length
      · rw [List.getElem?_append_left hi2]
      · rw [List.getElem?_append_right (by omega), List.getElem?_drop, List.getElem?_eq_none (by omega), List.getElem?_eq_none (by omega)]
    · rw [if_neg hi, List.getElem?_eq_none (by omega)]
  · rw [if_neg hk, pg_get]
    have hne : k ≠ j := fun e => hk (by rw [h1, e])
    by_cases hi : i < 128
    · rw [if_pos hi, if_pos hi]
      by_cases hlt : k < j
      · rw [List.getElem?_append_left (by omega), List.getElem?_take, if_pos (by omega)]
      · rw [List.getElem?_append_right (by omega), hs]
        by_cases h5 : k * 128 + i - j * 128 < c.2.length
        · omega
        · rw [List.getElem?_append_right (by omega), List.getElem?_drop]
          congr 1
          omega
    · rw [if_neg hi, if_neg hi]
theorem fold_len {L : Nat} : ∀ (cs : List CT) {cur : List UInt8}, cur.length = L → (∀ c ∈ cs, OkC L c) → (cs.foldl putPg cur).length = L
  | [], _, h, _ => h
  | c :: cs, _, h, hc => fold_len cs (putPg_len h (hc c (by simp))) (fun d hd => hc d (by simp [hd]))
/-- the data of a page's change -/
def findC (cs : List CT) (k : Nat) : Option (List UInt8) := (cs.find? (fun c => c.1 == (k : Int))).map (·.2)
theorem pg_fold {L : Nat} (k : Nat) : ∀ (cs : List CT) {cur : List UInt8}, cur.length = L → (∀ c ∈ cs, OkC L c) → cs.Pairwise (fun c d => c.1 < d.1) →
    pg (cs.foldl putPg cur) (k : Int) = (findC cs k).getD (pg cur (k : Int))
  | [], _, _, _, _ => rfl
  | c :: cs, cur, h, hc, hp => by
    rw [List.foldl_cons, pg_fold k cs (putPg_len h (hc c (by simp))) (fun d hd => hc d (by simp [hd])) (List.pairwise_cons.1 hp).2, pg_put h (hc c (by simp))]
    unfold findC
    rw [List.find?_cons]
    by_cases hk : c.1 = k
    · have h1 : (c.1 == (k : Int)) = true := by simpa using hk
      rw [if_pos hk, h1]
      have h2 : cs.find? (fun c => c.1 == (k : Int)) = none := by
        rw [List.find?_eq_none]
        intro d hd hdk
        have := (List.pairwise_cons.1 hp).1 d hd
        simp at hdk
        omega
      rw [h2]; rfl
    · have h1 : (c.1 == (k : Int)) = false := by simpa using hk
      rw [if_neg hk, h1]
theorem pg_base (a : List UInt8) (L k : Nat) (h : szN a.length (k : Int) = szN L (k : Int)) : pg (base a L) (k : Int) = pg a (k : Int) := by
  rw [szN_nat, szN_nat] at h
  apply List.ext_getElem?
  intro i
  rw [pg_get, pg_get]
  split
  · unfold base
    by_cases h1 : k * 128 + i < L
    · by_cases h2 : k * 128 + i < a.length
      · rw [List.getElem?_append_left (by rw [List.length_take]; omega), List.getElem?_take, if_pos h1]
      · omega
    · rw [List.getElem?_eq_none (by rw [List.length_append, List.length_take, List.length_replicate]; omega), List.getElem?_eq_none (by omega)]
  · rfl

/-- what the loop of Valid has seen -/
theorem vgo_spec (n L : Nat) (cs : List CT) : ∀ (k : Nat) (rest : List CT), vgo n L cs k = some rest → ∃ pre, cs = pre ++ rest ∧ (∀ c ∈ pre, ∃ j : Nat, c.1 = j ∧ j < k ∧ c.2.length = szN L (j : Int)) ∧ pre.Pairwise (fun c d => c.1 < d.1) ∧ ∀ j : Nat, j < k → szN n (j : Int) ≠ szN L (j : Int) → ∃ c ∈ pre, c.1 = j
  | 0, rest, h => by
    have : cs = rest := by simpa [vgo] using h
    exact ⟨[], by simp [this], by simp, List.Pairwise.nil, by omega⟩
  | k + 1, rest, h => by
    rw [vgo_succ] at h
    cases hv : vgo n L cs k with
    | none => rw [hv] at h; cases h
    | some r =>
      rw [hv] at h
      obtain ⟨pre, h1, h2, h3, h4⟩ := vgo_spec n L cs k r hv
      have hs : vst n L k r = some rest := h
      have weak : ∀ c ∈ pre, ∃ j : Nat, c.1 = j ∧ j < k + 1 ∧ c.2.length = szN L (j : Int) := fun c hc => by obtain ⟨j, e1, e2, e3⟩ := h2 c hc; exact ⟨j, e1, by omega, e3⟩
      have same : r = rest → szN n (k : Int) = szN L (k : Int) → ∃ pre, cs = pre ++ rest ∧ (∀ c ∈ pre, ∃ j : Nat, c.1 = j ∧ j < k + 1 ∧ c.2.length = szN L (j : Int)) ∧ pre.Pairwise (fun c d => c.1 < d.1) ∧ ∀ j : Nat, j < k + 1 → szN n (j : Int) ≠ szN L (j : Int) → ∃ c ∈ pre, c.1 = j := fun e e2 =>
        ⟨pre, e ▸ h1, weak, h3, fun j hj hne => by
          by_cases hjk : j = k
          · subst hjk; exact absurd e2 hne
          · exact h4 j (by omega) hne⟩
      cases r with
      | nil =>
        simp only [vst] at hs
        split at hs
        · rename_i he; exact same (Option.some.inj hs) he
        · cases hs
      | cons c r =>
        simp only [vst] at hs
        split at hs
        · rename_i hck
          split at hs
          · rename_i hlen
            have e := Option.some.inj hs
            subst e
            refine ⟨pre ++ [c], by rw [h1]; simp, ?_, ?_, ?_⟩
            · intro d hd
              rcases List.mem_append.1 hd with hd | hd
              · exact weak d hd
              · simp at hd; subst hd; exact ⟨k, hck, by omega, hlen⟩
            · rw [List.pairwise_append]
              refine ⟨h3, by simp, fun d hd e he => ?_⟩
              simp at he; subst he
              obtain ⟨j, e1, e2, _⟩ := h2 d hd
              omega
            · intro j hj hne
              by_cases hjk : j = k
              · subst hjk; exact ⟨c, by simp, hck⟩
              · obtain ⟨d, hd, e⟩ := h4 j (by omega) hne
                exact ⟨d, by simp [hd], e⟩
          · cases hs
        · split at hs
          · rename_i he; exact same (Option.some.inj hs) he
          · cases hs
theorem validN_spec {n L : Nat} {cs : List CT} (h : validN n L cs = true) : (∀ c ∈ cs, OkC L c) ∧ cs.Pairwise (fun c d => c.1 < d.1) ∧ ∀ j : Nat, szN n (j : Int) ≠ szN L (j : Int) → j < (cntI L).toNat → ∃ c ∈ cs, c.1 = j := by
  unfold validN at h
  cases hv : vgo n L cs (cntI L).toNat with
  | none => rw [hv] at h; cases h
  | some r =>
    rw [hv] at h
    cases r with
    | cons c r => cases h
    | nil =>
      obtain ⟨pre, h1, h2, h3, h4⟩ := vgo_spec n L cs _ _ hv
      rw [List.append_nil] at h1
      subst h1
      exact ⟨h2, h3, fun j h5 h6 => h4 j h6 h5⟩
/-- the pages of what Apply returns -/
theorem pg_apply {a : List UInt8} {L : Nat} {cs : List CT} (h : validN a.length L cs = true) (k : Nat) (hk : k < (cntI L).toNat) : pg (applyL a L cs) (k : Int) = (findC cs k).getD (pg a (k : Int)) := by
  obtain ⟨h1, h2, h3⟩ := validN_spec h
  unfold applyL
  rw [pg_fold k cs (base_len a L) h1 h2]
  cases hf : findC cs k with
  | some d => rfl
  | none =>
    rw [Option.getD_none, Option.getD_none]
    refine pg_base a L k ?_
    apply Classical.byContradiction
    intro hne
    obtain ⟨c, hc, e⟩ := h3 k hne hk
    unfold findC at hf
    rw [Option.map_eq_none_iff, List.find?_eq_none] at hf
    exact hf c hc (by simpa using e)
theorem apply_len {a : List UInt8} {L : Nat} {cs : List CT} (h : validN a.length L cs = true) : (applyL a L cs).length = L := fold_len cs (base_len a L) (validN_spec h).1

/-- the patch from an image to another one is valid -/
theorem vgo_diff (a b : List UInt8) : ∀ (j k : Nat), k + j = (b.length + 127) / 128 → vgo a.length b.length (diffL a b) k = some (diffTo a b (List.range' k j)) := by
  intro j k
  induction k generalizing j with
  | zero =>
    intro h
    have : j = (cntI b.length).toNat := by rw [cnt_toNat]; omega
    subst this
    simp [vgo, diffL, List.range_eq_range']
  | succ k ih =>
    intro h
    rw [vgo_succ, ih (j + 1) (by omega)]
    show vst a.length b.length k _ = _
    rw [List.range'_succ]
    have hcons : diffTo a b (k :: List.range' (k + 1) j) = diffAt a b k ++ diffTo a b (List.range' (k + 1) j) := by simp [diffTo]
    rw [hcons]
    unfold diffAt
    by_cases he : pg b (k : Int) = pg a (k : Int)
    · rw [if_pos (by simpa using he), List.nil_append]
      have hsz : szN a.length (k : Int) = szN b.length (k : Int) := by rw [← pg_len', ← pg_len', he]
      cases hr : diffTo a b (List.range' (k + 1) j) with
      | nil => simp only [vst]; rw [if_pos hsz]
      | cons c r =>
        have hc : c ∈ diffTo a b (List.range' (k + 1) j) := by rw [hr]; simp
        have hne : ¬ c.1 = (k : Int) := by
          unfold diffTo at hc
          rw [List.mem_flatMap] at hc
          obtain ⟨i, hi, hci⟩ := hc
          rw [List.mem_range'_1] at hi
          unfold diffAt at hci
          split at hci
          · simp at hci
          · simp at hci; subst hci; simp; omega
        simp only [vst]
        rw [if_neg hne, if_pos hsz]
    · rw [if_neg (by simpa using he)]
      simp only [List.singleton_append, vst]
      rw [if_pos trivial, if_pos (pg_len' b k)]
theorem valid_diff (a b : List UInt8) : validN a.length b.length (diffL a b) = true := by
  unfold validN
  rw [cnt_toNat, vgo_diff a b 0 _ (by omega)]
  rfl
theorem find_diff (a b : List UInt8) (k : Nat) : ∀ (ks : List Nat), findC (diffTo a b ks) k = if k ∈ ks ∧ pg b (k : Int) ≠ pg a (k : Int) then some (pg b (k : Int)) else none
  | [] => by simp [diffTo, findC]
  | j :: ks => by
    have ih := find_diff a b k ks
    have hcons : diffTo a b (j :: ks) = diffAt a b j ++ diffTo a b ks := by simp [diffTo]
    rw [hcons]
    unfold findC at ih ⊢
    by_cases hjk : k = j
    · subst hjk
      by_cases he : pg b (k : Int) = pg a (k : Int)
      · rw [diffAt, if_pos (by simpa using he), List.nil_append, ih, if_neg (fun h => h.2 he), if_neg (fun h => h.2 he)]
      · rw [diffAt, if_neg (by simpa using he), List.singleton_append, List.find?_cons]
        simp [he]
    · have hfa : ∀ c ∈ diffAt a b j, (c.1 == (k : Int)) = false := fun c hc => by
        unfold diffAt at hc
        split at hc
        · simp at hc
        · simp at hc; subst hc; simp; omega
      rw [List.find?_append, List.find?_eq_none.2 (fun c hc => by rw [hfa c hc]; simp), Option.none_or, ih]
      simp [hjk]
/-- the patch from an image to another one, applied to the first, is the second -/
theorem apply_diff (a b : List UInt8) : applyL a b.length (diffL a b) = b := by
  have hv := valid_diff a b
  apply pages_ext
  intro k
  by_cases hk : k < (cntI b.length).toNat
  · rw [pg_apply hv k hk]
    unfold diffL
    rw [find_diff]
    by_cases he : pg b (k : Int) = pg a (k : Int)
    · rw [if_neg (fun h => h.2 he), Option.getD_none, he]
    · rw [if_pos ⟨List.mem_range.2 hk, he⟩]; rfl
  · rw [cnt_toNat] at hk
    rw [pg_out (by rw [apply_len hv]; omega), pg_out (by omega)]
end Go.Proofs.Ytnkgoaloigmmfaa
