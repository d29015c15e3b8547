/-
  Lists of records in memory: of the call's own, and readable ones.
-/
import Derived.Test.YtfdkmncjcehdkaaUB
namespace Go.Proofs.Ytfdkmncjcehdkaa
open Go.RowKit

abbrev RT := Int × Int × List UInt8
abbrev RP := RT × Value
def rowR (p : RP) : List Value := [.int .i64 p.1.1, .int .i64 p.1.2.1, p.2]
def cellsR (ps : List RP) : List Value := ps.flatMap rowR
theorem cellsR_len (ps : List RP) : (cellsR ps).length = ps.length * 3 := by
  induction ps with
  | nil => rfl
  | cons p ps ih => simp only [cellsR, List.flatMap_cons, List.length_append, List.length_cons] at ih ⊢; rw [ih]; simp [rowR]; omega
theorem cellsR_get (d : Nat) (hd : d < 3) : ∀ (ps : List RP) {i : Nat} {p : RP}, ps[i]? = some p → (cellsR ps)[i * 3 + d]? = (rowR p)[d]?
  | [], i, p, h => by simp at h
  | q :: ps, 0, p, h => by
    simp at h; subst h
    rw [Nat.zero_mul, Nat.zero_add]
    exact List.getElem?_append_left (by simp [rowR]; omega)
  | q :: ps, i + 1, p, h => by
    have := cellsR_get d hd ps (i := i) (p := p) (by simpa using h)
    rw [show (i + 1) * 3 + d = (i * 3 + d) + 3 by omega]
    exact this
theorem cellsR_append (ps qs : List RP) : cellsR (ps ++ qs) = cellsR ps ++ cellsR qs := by simp [cellsR]
theorem cellsR_take (ps : List RP) (m : Nat) : cellsR (ps.take m) = (cellsR ps).take (m * 3) := by
  induction ps generalizing m with
  | nil => simp [cellsR]
  | cons p ps ih =>
    cases m with
    | zero => simp [cellsR]
    | succ m =>
      have e : cellsR (p :: ps) = rowR p ++ cellsR ps := by simp [cellsR]
      have e2 : cellsR (p :: ps.take m) = rowR p ++ cellsR (ps.take m) := by simp [cellsR]
      rw [List.take_succ_cons, e, e2, ih, show (m + 1) * 3 = 3 + m * 3 by omega]
      simp [rowR, List.take_succ_cons, Nat.add_comm 3]
theorem cellsR_drop : ∀ (ps : List RP) (m : Nat), cellsR (ps.drop m) = (cellsR ps).drop (m * 3)
  | [], m => by simp [cellsR]
  | p :: ps, 0 => by simp
  | p :: ps, m + 1 => by
    have e : cellsR (p :: ps) = rowR p ++ cellsR ps := by simp [cellsR]
    rw [List.drop_succ_cons, e, cellsR_drop ps m, show (m + 1) * 3 = 3 + m * 3 by omega]
    rw [List.drop_append]
    simp [rowR]

theorem own3_kept {w w' : World} {base : Nat} {e : TypeId} {v : Value} {n : Nat} {xs : List Value} {row : Option Nat} (h : w.ownsRow base e 3 v n xs) (hg : w.grownBy w' row) (hr : ∀ k, v.ownBlock = some k → row ≠ some k) : w'.ownsRow base e 3 v n xs :=
  h.kept hg (by cases hv : v.ownBlock with
    | none => exact .inl rfl
    | some k => exact .inr (fun e => hr k hv e.symm))

/-- a row of records of the call's own, in a block from B on -/
def RRow (te : TypeId) (w : World) (B : Nat) (v : Value) (ps : List RP) : Prop := w.ownsRow B te 3 v ps.length (cellsR ps)
theorem RRow.slice {te : TypeId} {w : World} {B : Nat} {v : Value} {ps : List RP} (h : RRow te w B v ps) : ∃ a c, v = .slice a ps.length c := by
  rcases h.2 with ⟨rfl, h2⟩ | ⟨g, cap, cur, rfl, _⟩
  · exact ⟨none, 0, by rw [h2]⟩
  · exact ⟨_, _, rfl⟩
theorem RRow.nil (te : TypeId) (w : World) (B : Nat) : RRow te w B (.slice none 0 0) [] := World.ownsRow_nil w B _ 3
theorem RRow.kept {te : TypeId} {w w' : World} {B : Nat} {v : Value} {ps : List RP} {row : Option Nat} (h : RRow te w B v ps) (hg : w.grownBy w' row) (hr : ∀ k, v.ownBlock = some k → row ≠ some k) : RRow te w' B v ps := own3_kept h hg hr
theorem RRow.grown {te : TypeId} {w w' : World} {B : Nat} {v : Value} {ps : List RP} (h : RRow te w B v ps) (hg : w.grownBy w' none) : RRow te w' B v ps := h.kept hg (by simp)
theorem RRow.mono {te : TypeId} {w : World} {B B' : Nat} {v : Value} {ps : List RP} (h : RRow te w B v ps) (hb : B' ≤ B) : RRow te w B' v ps := by
  obtain ⟨h1, h2⟩ := h
  refine ⟨h1, ?_⟩
  rcases h2 with h2 | ⟨g, cap, cur, e, h3, h4⟩
  · exact .inl h2
  · exact .inr ⟨g, cap, cur, e, by omega, h4⟩

theorem info_rec : (Try.prog.info? 65).map (fun i => (i.zero, i.size, i.bytes)) = some (some (.agg #[.int .i64 0, .int .i64 0, .slice none 0 0]), 3, 40) := by kernel_rfl
theorem info_rref : (Try.prog.info? 69).map (fun i => (i.zero, i.size, i.bytes)) = some (some (.agg #[.int .i64 0, .int .i64 0, .slice none 0 0]), 3, 40) := by kernel_rfl
def RInfo (te : TypeId) : Prop := (Try.prog.info? te).map (fun i => (i.zero, i.size, i.bytes)) = some (some (.agg #[.int .i64 0, .int .i64 0, .slice none 0 0]), 3, 40)
theorem cellsR_one (ps : List RP) (h : ∀ p ∈ ps, p.2.oneCell' = true) : ∀ u ∈ cellsR ps, u.oneCell' = true := by
  intro u hu
  simp only [cellsR, List.mem_flatMap] at hu
  obtain ⟨p, hp, hu⟩ := hu
  simp [rowR] at hu
  rcases hu with rfl | rfl | rfl
  · rfl
  · rfl
  · exact h p hp

/-- a list of records that can be read -/
def RdRow (w : World) (v : Value) (ps : List RP) : Prop :=
  (v = .slice none 0 0 ∧ ps = []) ∨ ∃ b off cap, v = .slice (some ⟨b, off, none⟩) ps.length cap ∧ ps.length ≤ cap ∧ cap ≤ maxLen ∧ ∀ (j : Nat) (c : Value), (cellsR ps)[j]? = some c → w.cell? ⟨b, off + j, none⟩ = some c
def RdRs (w : World) (v : Value) (ps : List RP) : Prop := RdRow w v ps ∧ ∀ p ∈ ps, RdW w p.2 p.1.2.2
theorem RdRow.kept {w w' : World} {v : Value} {ps : List RP} {row : Option Nat} (h : RdRow w v ps) (hg : w.grownBy w' row) (hv : ps ≠ [] → ∀ k, v.ownBlock = some k → row ≠ some k) : RdRow w' v ps := by
  rcases h with h1 | ⟨b, off, cap, rfl, h1, h2, h3⟩
  · exact .inl h1
  · exact .inr ⟨b, off, cap, rfl, h1, h2, fun j c hj => hg.cell (h3 j c hj) (fun e => hv (by rintro rfl; simp [cellsR] at hj) b rfl e.symm)⟩
theorem RdRs.kept {w w' : World} {v : Value} {ps : List RP} {row : Option Nat} (h : RdRs w v ps) (hg : w.grownBy w' row) (hv : ps ≠ [] → ∀ k, v.ownBlock = some k → row ≠ some k) (hd : ∀ p ∈ ps, p.1.2.2 ≠ [] → ∀ k, p.2.ownBlock = some k → row ≠ some k) : RdRs w' v ps :=
  ⟨h.1.kept hg hv, fun p hp => (h.2 p hp).kept hg (hd p hp)⟩
theorem RdRs.grown {w w' : World} {v : Value} {ps : List RP} (h : RdRs w v ps) (hg : w.grownBy w' none) : RdRs w' v ps := h.kept hg (by simp) (by simp)
theorem RdRow.len {w : World} {v : Value} {ps : List RP} (h : RdRow w v ps) : ∃ a c, v = .slice a ps.length c := by
  rcases h with ⟨rfl, rfl⟩ | ⟨b, off, cap, rfl, _⟩
  · exact ⟨none, 0, rfl⟩
  · exact ⟨_, _, rfl⟩
theorem RdRow.small {w : World} {v : Value} {ps : List RP} (h : RdRow w v ps) : (ps.length : Int) ≤ 9223372036854775807 := by
  rcases h with ⟨rfl, rfl⟩ | ⟨b, off, cap, rfl, h1, h2, _⟩
  · simp
  · simp only [maxLen] at h2; omega
theorem RdRow.at {w : World} {a : Option Addr} {n c : Nat} {ps : List RP} (h : RdRow w (.slice a n c) ps) {i : Nat} {p : RP} (hi : ps[i]? = some p) :
    ∃ b off, a = some ⟨b, off, none⟩ ∧ w.cell? ⟨b, off + i * 3, none⟩ = some (.int .i64 p.1.1) ∧ w.cell? ⟨b, off + i * 3 + 1, none⟩ = some (.int .i64 p.1.2.1) ∧ w.cell? ⟨b, off + i * 3 + 2, none⟩ = some p.2 := by
  rcases h with ⟨_, rfl⟩ | ⟨b, off, cap, h0, h1, h2, h3⟩
  · simp at hi
  · simp only [Value.slice.injEq] at h0
    exact ⟨b, off, h0.1, h3 _ _ (cellsR_get 0 (by omega) ps hi), by rw [Nat.add_assoc]; exact h3 _ _ (cellsR_get 1 (by omega) ps hi), by rw [Nat.add_assoc]; exact h3 _ _ (cellsR_get 2 (by omega) ps hi)⟩
theorem RRow.rd {te : TypeId} {w : World} {B : Nat} {v : Value} {ps : List RP} (h : RRow te w B v ps) : RdRow w v ps := by
  have h0 := h
  obtain ⟨h1, h2⟩ := h
  rcases h2 with ⟨rfl, hn⟩ | ⟨g, cap, cur, rfl, hb, hg, hnc, hcm, hcs, htake⟩
  · exact .inl ⟨rfl, List.eq_nil_of_length_eq_zero hn⟩
  · refine .inr ⟨g, 0, cap, rfl, hnc, hcm, fun j c hj => ?_⟩
    have := World.ownsRow.cells h0 (g := g) rfl j c hj
    rwa [addr_add] at this
theorem RdRow.drop {w : World} {b off n c : Nat} {ps : List RP} (h : RdRow w (.slice (some ⟨b, off, none⟩) n c) ps) {m : Nat} (hm : m ≤ ps.length) :
    RdRow w (.slice (some ⟨b, off + m * 3, none⟩) (ps.length - m) (c - m)) (ps.drop m) ∧ (c = m → RdRow w (.slice (some ⟨b, off, none⟩) (ps.length - m) (c - m)) (ps.drop m)) := by
  rcases h with ⟨h0, _⟩ | ⟨b', off', cap, h0, h1, h2, h3⟩
  · cases h0
  · cases h0
    refine ⟨.inr ⟨b, off + m * 3, c - m, by rw [List.length_drop], by rw [List.length_drop]; omega, by omega, fun j x hj => ?_⟩, fun e => .inr ⟨b, off, c - m, by rw [List.length_drop], by rw [List.length_drop]; omega, by omega, fun j x hj => ?_⟩⟩
    · rw [cellsR_drop, List.getElem?_drop] at hj
      rw [Nat.add_assoc]
      exact h3 _ _ hj
    · exfalso
      have h5 := cellsR_len (ps.drop m)
      rw [List.length_drop] at h5
      rw [List.getElem?_eq_none (by omega)] at hj
      cases hj

/-- append of one record, and of readable ones, to a row of the call's own -/
theorem RRow.app {ts te : TypeId} (hu : Try.prog.underlying ts = some (.slice te)) (hin : RInfo te)
    {w : World} {B : Nat} {v sv : Value} {ps qs : List RP} (h : RRow te w B v ps) (hs : RdRow w sv qs) (hq : ∀ p ∈ qs, p.2.oneCell' = true) (hn : ps.length + qs.length ≤ 1000000) (hB : B ≤ w.heap.size) (ty : TypeId) :
    ∃ v' w', (Builtin.append_ #[ts, ts] ty #[v, sv]).run Try.prog w = .ok v' w' ∧ RRow te w' B v' (ps ++ qs) ∧ w.grownBy w' v.ownBlock ∧ Fr w v v' := by
  obtain ⟨i0, hi, hz0, hz1, hz2⟩ := info_parts hin
  rcases hs with ⟨rfl, rfl⟩ | ⟨b, off, cap, rfl, h1, h2, h3⟩
  · exact ⟨v, w, run_append_owned_none (P := Try.prog) w B _ ty _ i0 3 hu hi v _ _ h, by simpa using h, gb_refl _ _, Fr.refl _ _⟩
  · obtain ⟨v', w', hr, ho, hgr, hf⟩ := run_append_own2 (P := Try.prog) w B ts ty te i0 _ 3 40 hu hi hz0 hz1 hz2 rfl (by decide) v ps.length (cellsR ps) h
      ⟨b, off, none⟩ qs.length cap (cellsR qs) (cellsR_len qs) (fun j u hu => by rw [addr_add]; exact h3 j u hu) (cellsR_one qs hq) (by simp only [maxLen]; omega) (by omega) hB
    refine ⟨v', w', hr, ?_, hgr, hf⟩
    unfold RRow
    rw [List.length_append, cellsR_append]
    exact ho
theorem RdRow.one {w : World} {g : Nat} {p : RP} {T : TypeId} (hg : w.heap[g]? = some (.cells #[.int .i64 p.1.1, .int .i64 p.1.2.1, p.2] T (0, 0))) : RdRow w (.slice (some ⟨g, 0, none⟩) 1 1) [p] :=
  .inr ⟨g, 0, 1, rfl, Nat.le_refl _, by simp [maxLen], fun j c hj => by
    rw [Nat.zero_add, cell_row hg]
    simpa [cellsR, rowR] using hj⟩
end Go.Proofs.Ytfdkmncjcehdkaa
