/-
  Whole structs: stores, and returns out of a block.
-/
import Derived.Test.YtjijiondinbmnaaWD
namespace Go.Proofs.Ytjijiondinbmnaa
open Go.RowKit
theorem is_store {ops : Array Oper} {rest : List Oper} {a : Act} {w : World} {Q : Exit → Act → World → Prop} (t : TypeId) (x v : Tmp) {ty : TypeId} {ps : String} {af : Array Edge}
    (h : wpList Try.prog ops Q ({ dst := none, op := .store t (.tmp x) (.tmp v), type := ty, pos := ps, after := af, guard := none } :: rest) a w) :
    wpList Try.prog ops Q ({ dst := none, op := .store t (.tmp x) (.tmp v), type := ty, pos := ps, after := af, guard := none } :: rest) a w := h
theorem is_load {ops : Array Oper} {rest : List Oper} {a : Act} {w : World} {Q : Exit → Act → World → Prop} (t : TypeId) (d x : Tmp) {ty : TypeId} {ps : String} {af : Array Edge}
    (h : wpList Try.prog ops Q ({ dst := some d, op := .load t (.tmp x), type := ty, pos := ps, after := af, guard := none } :: rest) a w) :
    wpList Try.prog ops Q ({ dst := some d, op := .load t (.tmp x), type := ty, pos := ps, after := af, guard := none } :: rest) a w := h

theorem st_row {ops : Array Oper} {rest : List Oper} {a : Act} {w : World} {Q : Exit → Act → World → Prop} (t : TypeId) (x v : Tmp) {ty : TypeId} {ps : String} {af : Array Edge}
    (g : Nat) (old cs : Array Value) (e : TypeId) (hx : a.eval (.tmp x) = .pointer (some ⟨g, 0, none⟩)) (hv : a.eval (.tmp v) = .agg cs) (hg : w.heap[g]? = some (.cells old e (0, 0)))
    (hi : (Try.prog.info? t).map (·.size) = some cs.size) (ho : old.size = cs.size) (h1 : cs.toList.all (·.oneCell') = true)
    (h : ∀ w', w'.heap[g]? = some (.cells cs e (0, 0)) → w.grownBy w' (some g) → wpList Try.prog ops Q rest a w') :
    wpList Try.prog ops Q ({ dst := none, op := .store t (.tmp x) (.tmp v), type := ty, pos := ps, after := af, guard := none } :: rest) a w := by
  refine wpList_plain rfl fun _ hK => ?_
  unfold Oper.wp execOp
  simp only [hx, hv, Instr.storeAt, Instr.sureAddr, Sem.run_bind, Sem.run_pure, Result.andThen_ok, run_storeVar_row w g e t old cs hg hi ho (by rw [← Array.all_toList]; exact h1)]
  exact hK _ _ (h _ (setRow_heap w g old cs e _ hg) (gb_setRow w g cs))

/-- the return of a struct out of a block -/
theorem ret_row {fn : Func} {R : Ending → World → Prop} {p : Tmp} {ty : TypeId} {tmps : Array Value} {w : World} {fs : Array Field} (hr : fn.results = #[.cell p ty]) (g : Nat) (t : TypeId) (cs : Array Value)
    (hp : tmps.getD p undef = .pointer (some ⟨g, 0, none⟩)) (hg : w.heap[g]? = some (.cells cs t (0, 0))) (hu : Try.prog.underlying ty = some (.struct fs)) (hi : (Try.prog.info? ty).map (·.size) = some cs.size)
    (h : R (.returned (.agg cs)) w) : bodyPost Try.prog fn R .ret { tmps := tmps, defers := [] } w :=
  bodyPost_ret (results_cell_row hr tmps w g t cs (0, 0) _ hp hg hu rfl hi) rfl h
end Go.Proofs.Ytjijiondinbmnaa
