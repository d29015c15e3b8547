/-
  A table in memory: its block and the row of its slots.
-/
import Derived.Test.YtjijiondinbmnaaRow
import Derived.Test.YtjijiondinbmnaaLaw
namespace Go.Proofs.Ytjijiondinbmnaa
open Go.RowKit

abbrev SS := Nat × Bool × Int
def rowS (s : SS) : List Value := [.int .i64 (s.1 : Int), .bool s.2.1, .int .i64 s.2.2]
def cellsS (l : List SS) : List Value := l.flatMap rowS
theorem cellsS_len (l : List SS) : (cellsS l).length = l.length * 3 := by
  induction l with
  | nil => rfl
  | cons p ps ih => simp only [cellsS, List.flatMap_cons, List.length_append, List.length_cons] at ih ⊢; rw [ih]; simp [rowS]; omega
theorem cellsS_get (d : Nat) (hd : d < 3) : ∀ (l : List SS) {i : Nat} {p : SS}, l[i]? = some p → (cellsS l)[i * 3 + d]? = (rowS p)[d]?
  | [], i, p, h => by simp at h
  | q :: ps, 0, p, h => by
    simp at h; subst h
    rw [Nat.zero_mul, Nat.zero_add]
    exact List.getElem?_append_left (by simp [rowS]; omega)
  | q :: ps, i + 1, p, h => by
    have := cellsS_get d hd ps (i := i) (p := p) (by simpa using h)
    rw [show (i + 1) * 3 + d = (i * 3 + d) + 3 by omega]
    exact this
theorem cellsS_set2 : ∀ (l : List SS) {i : Nat} {p : SS} (x : Int), l[i]? = some p → (cellsS l).set (i * 3 + 2) (.int .i64 x) = cellsS (l.set i (p.1, p.2.1, x))
  | [], i, p, x, h => by simp at h
  | q :: ps, 0, p, x, h => by
    simp at h; subst h
    simp [cellsS, rowS]
  | q :: ps, i + 1, p, x, h => by
    have := cellsS_set2 ps (i := i) (p := p) x (by simpa using h)
    rw [show (i + 1) * 3 + 2 = (i * 3 + 2) + 3 by omega]
    have e : cellsS (q :: ps) = rowS q ++ cellsS ps := by simp [cellsS]
    have e2 : cellsS ((q :: ps).set (i + 1) (p.1, p.2.1, x)) = rowS q ++ cellsS (ps.set i (p.1, p.2.1, x)) := by simp [cellsS]
    rw [e, e2, ← this]
    rw [List.set_append_right _ _ (by simp [rowS])]
    simp [rowS]
theorem cellsS_set1 : ∀ (l : List SS) {i : Nat} {p : SS} (x : Bool), l[i]? = some p → (cellsS l).set (i * 3 + 1) (.bool x) = cellsS (l.set i (p.1, x, p.2.2))
  | [], i, p, x, h => by simp at h
  | q :: ps, 0, p, x, h => by
    simp at h; subst h
    simp [cellsS, rowS]
  | q :: ps, i + 1, p, x, h => by
    have := cellsS_set1 ps (i := i) (p := p) x (by simpa using h)
    rw [show (i + 1) * 3 + 1 = (i * 3 + 1) + 3 by omega]
    have e : cellsS (q :: ps) = rowS q ++ cellsS ps := by simp [cellsS]
    have e2 : cellsS ((q :: ps).set (i + 1) (p.1, x, p.2.2)) = rowS q ++ cellsS (ps.set i (p.1, x, p.2.2)) := by simp [cellsS]
    rw [e, e2, ← this]
    rw [List.set_append_right _ _ (by simp [rowS])]
    simp [rowS]
theorem cellsS_set0 : ∀ (l : List SS) {i : Nat} {p : SS} (x : Nat), l[i]? = some p → (cellsS l).set (i * 3) (.int .i64 (x : Int)) = cellsS (l.set i (x, p.2.1, p.2.2))
  | [], i, p, x, h => by simp at h
  | q :: ps, 0, p, x, h => by
    simp at h; subst h
    simp [cellsS, rowS]
  | q :: ps, i + 1, p, x, h => by
    have := cellsS_set0 ps (i := i) (p := p) x (by simpa using h)
    rw [show (i + 1) * 3 = (i * 3) + 3 by omega]
    have e : cellsS (q :: ps) = rowS q ++ cellsS ps := by simp [cellsS]
    have e2 : cellsS ((q :: ps).set (i + 1) (x, p.2.1, p.2.2)) = rowS q ++ cellsS (ps.set i (x, p.2.1, p.2.2)) := by simp [cellsS]
    rw [e, e2, ← this]
    rw [List.set_append_right _ _ (by simp [rowS])]
    simp [rowS]
theorem cellsS_one (l : List SS) : ∀ u ∈ cellsS l, u.oneCell' = true := by
  intro u hu
  simp only [cellsS, List.mem_flatMap] at hu
  obtain ⟨p, hp, hu⟩ := hu
  simp [rowS] at hu
  rcases hu with rfl | rfl | rfl <;> rfl

def NumG (n : Int) (w : World) (e : Ending) (w' : World) : Prop := e = .returned (.int .i64 n) ∧ w.grownBy w' none
def OkI (n : Int) : Prop := -9223372036854775808 ≤ n ∧ n ≤ 9223372036854775807
/-- a slot as it may be -/
def SOk (s : SS) : Prop := s.1 ≤ 1000 ∧ (s.2.1 = true → s.1 < 1000) ∧ (s.2.1 = false → s.2.2 = 0) ∧ OkI s.2.2
def newS (n : Nat) : List SS := List.replicate n (0, false, 0)

/-- a table of the program -/
structure IsT (w : World) (g s : Nat) (l : List SS) : Prop where
  tab : w.heap[g]? = some (.cells #[.slice (some ⟨s, 0, none⟩) l.length l.length] 63 (0, 0))
  row : w.ownsRow 0 69 3 (.slice (some ⟨s, 0, none⟩) l.length l.length) l.length (cellsS l)
  ne : g ≠ s
  pos : 0 < l.length
  len : l.length ≤ 200
  ok : ∀ p ∈ l, SOk p

theorem IsT.kept {w w' : World} {g s : Nat} {l : List SS} {row : Option Nat} (h : IsT w g s l) (hg : w.grownBy w' row) (h1 : row ≠ some g) (h2 : row ≠ some s) : IsT w' g s l :=
  ⟨blk_kept' h.tab hg h1, World.ownsRow.kept h.row hg (.inr (fun e => h2 e.symm)), h.ne, h.pos, h.len, h.ok⟩
theorem IsT.grown {w w' : World} {g s : Nat} {l : List SS} (h : IsT w g s l) (hg : w.grownBy w' none) : IsT w' g s l := h.kept hg (by simp) (by simp)
theorem IsT.cell {w : World} {g s : Nat} {l : List SS} (h : IsT w g s l) : w.cell? ⟨g, 0, none⟩ = some (.slice (some ⟨s, 0, none⟩) l.length l.length) := cell_row h.tab
theorem IsT.at {w : World} {g s : Nat} {l : List SS} (h : IsT w g s l) {i : Nat} {p : SS} (hi : l[i]? = some p) :
    w.cell? ⟨s, i * 3, none⟩ = some (.int .i64 (p.1 : Int)) ∧ w.cell? ⟨s, i * 3 + 1, none⟩ = some (.bool p.2.1) ∧ w.cell? ⟨s, i * 3 + 2, none⟩ = some (.int .i64 p.2.2) := by
  have hlt : i < l.length := (List.getElem?_eq_some_iff.1 hi).1
  refine ⟨?_, ?_, ?_⟩
  · rw [World.ownsRow.cellAt h.row _ (by omega)]; exact cellsS_get 0 (by omega) l hi
  · rw [World.ownsRow.cellAt h.row _ (by omega)]; exact cellsS_get 1 (by omega) l hi
  · rw [World.ownsRow.cellAt h.row _ (by omega)]; exact cellsS_get 2 (by omega) l hi
theorem IsT.frozen {w : World} {g s : Nat} {l : List SS} (h : IsT w g s l) (j : Nat) : w.frozen? ⟨s, j, none⟩ = false := World.ownsRow.frozenAt h.row j
theorem IsT.lt {w : World} {g s : Nat} {l : List SS} (h : IsT w g s l) : g < w.heap.size ∧ s < w.heap.size := ⟨(Array.getElem?_eq_some_iff.1 h.tab).1, (World.ownsRow.lt h.row s rfl).2⟩
theorem IsT.store {w : World} {g s : Nat} {l : List SS} (h : IsT w g s l) (j : Nat) (u : Value) (l' : List SS) (hc : (cellsS l).set j u = cellsS l') (hl : l'.length = l.length) (hok : ∀ p ∈ l', SOk p) : IsT (w.setCell ⟨s, j, none⟩ u) g s l' := by
  obtain ⟨k1, k2⟩ := World.ownsRow.stored h.row j u
  refine ⟨?_, ?_, h.ne, by rw [hl]; exact h.pos, by rw [hl]; exact h.len, hok⟩
  · rw [hl]; exact blk_kept' h.tab k2 (by have := h.ne; simp; omega)
  · rw [hc] at k1; rw [hl]; exact k1

theorem info_slot : (Try.prog.info? 69).map (fun i => (i.zero, i.size, i.bytes)) = some (some (.agg #[.int .i64 0, .bool false, .int .i64 0]), 3, 24) := by kernel_rfl
theorem made_slots (n : Nat) : (madeCells (Value.agg #[.int .i64 0, .bool false, .int .i64 0]).cells (n * 3)).toList = cellsS (newS n) := by
  apply List.ext_getElem?
  intro j
  have hlen : (cellsS (newS n)).length = n * 3 := by rw [cellsS_len]; simp [newS]
  by_cases hj : j < n * 3
  · have hi : (newS n)[j / 3]? = some (0, false, 0) := by
      unfold newS; rw [List.getElem?_replicate, if_pos (by omega)]
    have h3 : j = (j / 3) * 3 + j % 3 := by omega
    have hm : j % 3 < 3 := Nat.mod_lt _ (by omega)
    have h4 := cellsS_get (j % 3) hm (newS n) hi
    rw [← h3] at h4
    rw [h4]
    have h5 : (madeCells (Value.agg #[.int .i64 0, .bool false, .int .i64 0]).cells (n * 3)).toList[j]? = some ((#[Value.int .i64 0, Value.bool false, Value.int .i64 0] : Array Value)[j % 3]!) := by
      simp [madeCells, hj, Value.cells]
    rw [h5]
    have : j % 3 = 0 ∨ j % 3 = 1 ∨ j % 3 = 2 := by omega
    rcases this with e | e | e <;> rw [e] <;> rfl
  · rw [List.getElem?_eq_none (by rw [Array.length_toList, size_madeCells]; omega), List.getElem?_eq_none (by omega)]
theorem mk_slots {ops : Array Oper} {rest : List Oper} {o : Oper} {a : Act} {w : World} {Q : Exit → Act → World → Prop} (hgd : o.guard = none) (l c : Operand) (ho : o.op = .makeSlice 61 l c)
    (n : Nat) (hl : a.eval l = .int .i64 n) (hc : a.eval c = .int .i64 n) (hn : n ≤ 1000)
    (h : ∀ w', w'.ownsRow w.heap.size 69 3 (.slice (some ⟨w.heap.size, 0, none⟩) n n) n (cellsS (newS n)) → w.grownBy w' none → wpList Try.prog ops Q rest (a.put o.dst (.slice (some ⟨w.heap.size, 0, none⟩) n n)) w') : wpList Try.prog ops Q (o :: rest) a w := by
  obtain ⟨i0, hi, hz0, hz1, hz2⟩ := info_parts info_slot
  obtain ⟨w', hr, h2, h3⟩ := run_make_full (P := Try.prog) w w.heap.size 61 69 i0 _ 3 Try.underlying61 hi hz0 hz1 .i64 .i64 n (by rw [hz2]; omega) (by unfold maxLen; omega) (Nat.le_refl _)
  rw [made_slots] at h2
  refine wpList_plain hgd fun _ hK => ?_
  unfold Oper.wp execOp
  simp only [ho, hl, hc, hr, Sem.run_bind, Sem.run_pure, Result.andThen_ok]
  exact hK _ _ (h w' h2 h3)
theorem ownsRow0 {w : World} {B : Nat} {e : TypeId} {size : Nat} {v : Value} {n : Nat} {xs : List Value} (h : w.ownsRow B e size v n xs) : w.ownsRow 0 e size v n xs := by
  refine ⟨h.1, ?_⟩
  rcases h.2 with h2 | ⟨g, cap, cur, e, h3, h4⟩
  · exact .inl h2
  · exact .inr ⟨g, cap, cur, e, Nat.zero_le _, h4⟩
theorem newS_ok (n : Nat) : ∀ p ∈ newS n, SOk p := by
  intro p hp
  have := List.eq_of_mem_replicate hp
  subst this
  exact ⟨by simp, by simp, by simp, by simp [OkI]⟩
end Go.Proofs.Ytjijiondinbmnaa
