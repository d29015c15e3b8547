/-
  Rows of runs (two integers each), of either package.
-/
import Derived.Test.YtpfeaeklenopdaaEInts
import Derived.Test.YtpfeaeklenopdaaEArg
namespace Go.Proofs.Ytpfeaeklenopdaa
open Go.RowKit

theorem cellsT_append (a b : List ST) : cellsT (a ++ b) = cellsT a ++ cellsT b := by simp [cellsT]
theorem cellsT_len (a : List ST) : (cellsT a).length = 2 * a.length := by
  induction a with
  | nil => rfl
  | cons p ps ih =>
    have : cellsT (p :: ps) = rowT p ++ cellsT ps := by simp [cellsT]
    rw [this, List.length_append, ih]
    simp [rowT]
    omega
/-- a row of runs of the call's own -/
def OwnR (te : TypeId) (w : World) (B : Nat) (v : Value) (rs : List ST) : Prop := w.ownsRow B te 2 v rs.length (cellsT rs)
theorem OwnR.nil (te : TypeId) (w : World) (B : Nat) : OwnR te w B (.slice none 0 0) [] := World.ownsRow_nil w B _ 2
theorem ownR_kept {w w' : World} {base size n : Nat} {e : TypeId} {v : Value} {xs : List Value} {row : Option Nat} (h : w.ownsRow base e size v n xs) (hg : w.grownBy w' row) (hne : ∀ k, v.ownBlock = some k → row ≠ some k) : w'.ownsRow base e size v n xs :=
  World.ownsRow.kept h hg (by cases hv : v.ownBlock with
    | none => exact .inl rfl
    | some k => exact .inr (fun e => hne k hv e.symm))
theorem OwnR.kept {te : TypeId} {w w' : World} {B : Nat} {v : Value} {rs : List ST} {row : Option Nat} (h : OwnR te w B v rs) (hg : w.grownBy w' row) (hne : ∀ k, v.ownBlock = some k → row ≠ some k) : OwnR te w' B v rs := ownR_kept h hg hne
theorem OwnR.grown {te : TypeId} {w w' : World} {B : Nat} {v : Value} {rs : List ST} (h : OwnR te w B v rs) (hg : w.grownBy w' none) : OwnR te w' B v rs := h.kept hg (by simp)
theorem OwnR.lt {te : TypeId} {w : World} {B : Nat} {v : Value} {rs : List ST} (h : OwnR te w B v rs) : ∀ k, v.ownBlock = some k → B ≤ k ∧ k < w.heap.size := World.ownsRow.lt h
theorem OwnR.mono {te : TypeId} {w : World} {B B' : Nat} {v : Value} {rs : List ST} (h : OwnR te w B v rs) (hb : B' ≤ B) : OwnR te w B' v rs := by
  obtain ⟨h1, h2⟩ := h
  refine ⟨h1, ?_⟩
  rcases h2 with h2 | ⟨g, cap, cur, e, h3, h4⟩
  · exact .inl h2
  · exact .inr ⟨g, cap, cur, e, by omega, h4⟩
theorem OwnR.rd {te : TypeId} {w : World} {B : Nat} {v : Value} {rs : List ST} (h : OwnR te w B v rs) : RdT w v rs := by
  have h0 := h
  obtain ⟨h1, h2⟩ := h
  rcases h2 with ⟨rfl, hn⟩ | ⟨g, cap, cur, rfl, hb, hg, hnc, hcm, hcs, htake⟩
  · exact .inl ⟨rfl, List.eq_nil_of_length_eq_zero hn⟩
  · refine .inr ⟨g, 0, cap, rfl, hnc, hcm, fun j x hj => ?_⟩
    have := World.ownsRow.cells h0 (g := g) rfl j x hj
    rwa [addr_add] at this
theorem OwnR.at0 {te : TypeId} {w : World} {B : Nat} {v : Value} {rs : List ST} (h : OwnR te w B v rs) (hl : rs ≠ []) : ∃ g cap, v = .slice (some ⟨g, 0, none⟩) rs.length cap ∧ B ≤ g ∧ g < w.heap.size := by
  obtain ⟨h1, h2⟩ := h
  rcases h2 with ⟨rfl, hn⟩ | ⟨g, cap, cur, rfl, hb, hg, _⟩
  · exact absurd (List.eq_nil_of_length_eq_zero hn) hl
  · exact ⟨g, cap, rfl, hb, (Array.getElem?_eq_some_iff.1 hg).1⟩
theorem rowT_one (p : ST) : ∀ u ∈ rowT p, u.oneCell' = true := by
  intro u hu
  simp only [rowT, List.mem_cons, List.not_mem_nil, or_false] at hu
  rcases hu with rfl | rfl <;> rfl
/-- append of one run, in a block of its own -/
theorem run_appR {ts te : TypeId} (hts : Try.prog.underlying ts = some (.slice te)) (hinfo : (Try.prog.info? te).map (fun i => (i.zero, i.size, i.bytes)) = some (some (.agg #[.int .i64 0, .int .i64 0]), 2, 16))
    (w : World) (B : Nat) (v : Value) (rs : List ST) (p : ST) (g : Nat) (ty T : TypeId) (hown : OwnR te w B v rs) (hg : w.heap[g]? = some (.cells #[.int .i64 p.1, .int .i64 p.2] T (0, 0))) (hB : B ≤ w.heap.size) (hb : rs.length ≤ 1000000) :
    ∃ v' w', (Builtin.append_ #[ts, ts] ty #[v, .slice (some ⟨g, 0, none⟩) 1 1]).run Try.prog w = .ok v' w' ∧ OwnR te w' B v' (rs ++ [p]) ∧ w.grownBy w' v.ownBlock ∧ Fr w v v' := by
  obtain ⟨i0, hi, hz0, hz1, hz2⟩ := info_parts hinfo
  obtain ⟨v', w', hr, ho, hgr, hf⟩ := run_append_own2 (P := Try.prog) w B ts ty te i0 _ 2 16 hts hi hz0 hz1 hz2 rfl (by decide) v rs.length (cellsT rs) hown ⟨g, 0, none⟩ 1 1 (rowT p) rfl (fun j u hu => by
      rw [addr_add, Nat.zero_add, cell_row hg]
      simpa [rowT] using hu) (rowT_one p) (by simp only [maxLen]; omega) (by omega) hB
  refine ⟨v', w', hr, ?_, hgr, hf⟩
  unfold OwnR
  rw [cellsT_append, List.length_append]
  simpa [cellsT] using ho
theorem app_runR {ops : Array Oper} {rest : List Oper} {o : Oper} {a : Act} {w : World} {Q : Exit → Act → World → Prop} {ts te : TypeId} (hts : Try.prog.underlying ts = some (.slice te)) (hinfo : (Try.prog.info? te).map (fun i => (i.zero, i.size, i.bytes)) = some (some (.agg #[.int .i64 0, .int .i64 0]), 2, 16)) (hgd : o.guard = none) (s x : Operand)
    (ho : o.op = .call { callee := .builtin .append, args := #[s, x], argTypes := #[ts, ts] })
    (B : Nat) (v : Value) (rs : List ST) (p : ST) (g : Nat) (T : TypeId) (hs : a.eval s = v) (hx : a.eval x = .slice (some ⟨g, 0, none⟩) 1 1) (hown : OwnR te w B v rs) (hg : w.heap[g]? = some (.cells #[.int .i64 p.1, .int .i64 p.2] T (0, 0))) (hB : B ≤ w.heap.size) (hb : rs.length ≤ 1000000)
    (h : ∀ v' w', OwnR te w' B v' (rs ++ [p]) → w.grownBy w' v.ownBlock → Fr w v v' → wpList Try.prog ops Q rest (a.put o.dst v') w') : wpList Try.prog ops Q (o :: rest) a w := by
  obtain ⟨v', w', hr, h2, h3, h4⟩ := run_appR hts hinfo w B v rs p g o.type T hown hg hB hb
  refine wpList_plain hgd fun _ hK => ?_
  unfold Oper.wp execOp
  simp only [ho, resolve, invoke, builtin, Sem.run_bind, Sem.run_pure, Result.andThen_ok, List.map_toArray, List.map_cons, List.map_nil, hs, hx, hr]
  exact hK _ _ (h v' w' h2 h3 h4)
theorem info_er : (Try.prog.info? 49).map (fun i => (i.zero, i.size, i.bytes)) = some (some (.agg #[.int .i64 0, .int .i64 0]), 2, 16) := by kernel_rfl
theorem info_rr : (Try.prog.info? 50).map (fun i => (i.zero, i.size, i.bytes)) = some (some (.agg #[.int .i64 0, .int .i64 0]), 2, 16) := by kernel_rfl
/-- the last run gets longer -/
theorem OwnR.last {te : TypeId} {w : World} {B g cap : Nat} {rs : List ST} {f n : Int} (h : OwnR te w B (.slice (some ⟨g, 0, none⟩) (rs.length + 1) cap) (rs ++ [(f, n)])) (z : Int) :
    w.cell? ⟨g, rs.length * 2 + 1, none⟩ = some (.int .i64 n) ∧ w.cell? ⟨g, rs.length * 2, none⟩ = some (.int .i64 f) ∧ w.frozen? ⟨g, rs.length * 2 + 1, none⟩ = false ∧ OwnR te (w.setCell ⟨g, rs.length * 2 + 1, none⟩ (.int .i64 z)) B (.slice (some ⟨g, 0, none⟩) (rs.length + 1) cap) (rs ++ [(f, z)]) := by
  have hl := cellsT_len rs
  unfold OwnR at h
  rw [List.length_append, List.length_singleton] at h
  have hc : cellsT (rs ++ [(f, n)]) = cellsT rs ++ [.int .i64 f, .int .i64 n] := by rw [cellsT_append]; rfl
  rw [hc] at h
  refine ⟨?_, ?_, World.ownsRow.frozenAt h _, ?_⟩
  · have := World.ownsRow.cells h (g := g) rfl (rs.length * 2 + 1) (.int .i64 n) (by rw [List.getElem?_append_right (by omega), show rs.length * 2 + 1 - (cellsT rs).length = 1 by omega]; rfl)
    rwa [addr_add, Nat.zero_add] at this
  · have := World.ownsRow.cells h (g := g) rfl (rs.length * 2) (.int .i64 f) (by rw [List.getElem?_append_right (by omega), show rs.length * 2 - (cellsT rs).length = 0 by omega]; rfl)
    rwa [addr_add, Nat.zero_add] at this
  · have hs := (World.ownsRow.stored h (rs.length * 2 + 1) (.int .i64 z)).1
    rw [List.set_append_right _ _ (by omega), show rs.length * 2 + 1 - (cellsT rs).length = 1 by omega] at hs
    unfold OwnR
    rw [List.length_append, List.length_singleton, show cellsT (rs ++ [(f, z)]) = cellsT rs ++ [.int .i64 f, .int .i64 z] by rw [cellsT_append]; rfl]
    exact hs
end Go.Proofs.Ytpfeaeklenopdaa
