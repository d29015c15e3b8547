/-
  Whole structs in and out of blocks, as laws of the walk.
-/
import Derived.Test.YtfldooljmjeaoaaCore
import Derived.Laws.Rows
namespace Go.Proofs.Ytfldooljmjeaoaa
open Go.RowKit

theorem heap_at_alloc (w : World) (o : Obj) : (w.alloc o).heap[w.heap.size]? = some o := by
  show (w.heap.push o)[w.heap.size]? = _
  rw [Array.getElem?_push, if_pos rfl]
theorem cell_row {w : World} {g j : Nat} {cs : Array Value} {t : TypeId} {fz : Nat × Nat} (h : w.heap[g]? = some (.cells cs t fz)) : w.cell? ⟨g, j, none⟩ = cs[j]? := by simp [World.cell?, h]
theorem blk_kept {w w1 : World} {k : Nat} {o : Obj} (h : w.heap[k]? = some o) (hg : w.grownBy w1 none) : w1.heap[k]? = some o := by
  rw [hg.block k (Array.getElem?_eq_some_iff.1 h).1 (by simp)]; exact h
theorem blk_kept' {w w1 : World} {k : Nat} {o : Obj} {row : Option Nat} (h : w.heap[k]? = some o) (hg : w.grownBy w1 row) (hne : row ≠ some k) : w1.heap[k]? = some o := by
  rw [hg.block k (Array.getElem?_eq_some_iff.1 h).1 (fun e => hne e.symm)]; exact h
theorem gb_setRow (w : World) (g : Nat) (cs : Array Value) : w.grownBy (w.setRow g cs) (some g) :=
  ⟨rfl, rfl, rfl, by simp [World.setRow], fun k _ hk => setRow_other w g k cs (fun e => hk (by rw [e]))⟩

/-- the load of a whole struct, as a law of the walk -/
theorem ld_row {ops : Array Oper} {rest : List Oper} {a : Act} {w : World} {Q : Exit → Act → World → Prop} (t : TypeId) (d x : Tmp) {ty : TypeId} {ps : String} {af : Array Edge}
    (g : Nat) (cs : Array Value) (e : TypeId) {fs : Array Field} (hx : a.eval (.tmp x) = .pointer (some ⟨g, 0, none⟩)) (hg : w.heap[g]? = some (.cells cs e (0, 0)))
    (hu : Try.prog.underlying t = some (.struct fs))
    (hi : (Try.prog.info? t).map (·.size) = some cs.size)
    (h : wpList Try.prog ops Q rest (a.put (some d) (.agg cs)) w) :
    wpList Try.prog ops Q ({ dst := some d, op := .load t (.tmp x), type := ty, pos := ps, after := af, guard := none } :: rest) a w :=
  wpList_load_row rfl t (.tmp x) rfl g hx e cs (0, 0) _ hg hu rfl hi h
/-- .. in any world in which the block holds these cells -/
theorem run_row {t : TypeId} {fs : Array Field} {cs : Array Value} {g : Nat} {e : TypeId} (hu : Try.prog.underlying t = some (.struct fs)) (hi : (Try.prog.info? t).map (·.size) = some cs.size) (W : World) (hg : W.heap[g]? = some (.cells cs e (0, 0))) :
    (loadVar t ⟨g, 0, none⟩).run Try.prog W = .ok (.agg cs) W := run_loadVar_row W g e t cs (0, 0) _ hg hu rfl hi
end Go.Proofs.Ytfldooljmjeaoaa
