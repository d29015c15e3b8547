/-
  What a slice of Booleans comes as, as the argument of a law.
-/
import Derived.Test.YtfdkmncjcehdkaaUArg
import Derived.Deep.Grids
namespace Go.Proofs.Ytfdkmncjcehdkaa
open Go.ChangeShapes Go.WideShapes Go.ChangeAt Go.RowKit

section
variable {H : Type} {enc : TypeId × Value → H} {W : World} {base : Nat}
theorem c_bool : Try.prog.cellsOf 4 = 1 := by kernel_rfl
set_option maxRecDepth 100000 in
theorem arg_bools {v : Value} {d : DataW H} {p : List MemPlace} (hval : Value.okWide Try.prog W .any base 47 v) (h0 : DataW.Trod enc Try.prog W 0 (fun _ => true) true 47 v d p) : ∃ ms : List Bool, RdL W v (ms.map .bool) := by
  obtain ⟨fuel, hf⟩ := h0
  rcases slice_arg Try.underlying47 hval with rfl | ⟨b, off, n, c, rfl, hn, hc⟩
  · exact ⟨[], .inl ⟨rfl, rfl⟩⟩
  · rcases Deep.open_bools Try.underlying47 Try.underlying4 c_bool hf with ⟨hcs, hx⟩ | ⟨a, len, cap, B, hcs, _, hl, hm, _, hcell⟩
    · simp [Value.cells] at hcs
    · simp only [Value.cells, List.cons.injEq, Value.slice.injEq, Option.some.injEq, and_true] at hcs
      obtain ⟨rfl, rfl, rfl⟩ := hcs
      refine ⟨(List.range n).map B, .inr ⟨b, off, c, by simp, by simpa using hl, hm, fun j x hj => ?_⟩⟩
      rw [List.getElem?_map, List.getElem?_map] at hj
      by_cases hjn : j < n
      · rw [List.getElem?_range hjn] at hj
        simp only [Option.map_some, Option.some.injEq] at hj
        subst hj
        have := hcell j (by omega)
        rwa [addr_add] at this
      · rw [List.getElem?_eq_none (by simp; omega)] at hj
        cases hj
end
end Go.Proofs.Ytfdkmncjcehdkaa
