/-
  Msg and Entry of a nil Reader.
-/
import Derived.Test.YtmleeidanbhihaaNil
import Derived.Test.YtmleeidanbhihaaStruct
namespace Go.Proofs.Ytmleeidanbhihaa
open Go.RowKit

abbrev zmsg : Value := .agg #[.int .i64 0, .int .i64 0, .int .i64 0, .int .i64 0, .int .i64 0, .int .i64 0, .int .i64 0, .int .i64 0, .slice none 0 0]
abbrev zent : Value := .agg #[.int .i64 0, .int .i64 0, .int .i64 0, .int .i64 0, .int .i64 0, .int .i64 0, .int .i64 0, .slice none 0 0]

set_option maxRecDepth 100000 in
set_option maxHeartbeats 400000 in
theorem value_nil_Msg (fv : Value) (w : World) : Calls Try.prog 84 #[.pointer none, fv] w (NilPost zmsg w) := by
  go_enter Try.func84, Try.ntmps84
  go_wp2
  go_returns
  exact ⟨rfl, gb_of_below (by go_grown)⟩
set_option maxRecDepth 100000 in
set_option maxHeartbeats 400000 in
theorem value_nil_Entry (fv : Value) (w : World) : Calls Try.prog 89 #[.pointer none, fv] w (NilPost zent w) := by
  go_enter Try.func89, Try.ntmps89
  go_wp2
  go_returns
  exact ⟨rfl, gb_of_below (by go_grown)⟩

set_option maxRecDepth 100000 in
set_option maxHeartbeats 400000 in
theorem msg_nil (w : World) : Calls Try.prog 51 #[.pointer none] w (NilPost zmsg w) := by
  have hm := hmf
  go_enter Try.func51, Try.ntmps51
  go_wp2_with (first | (go_at_call 84; refine (value_nil_Msg _ _).mono ?_; rintro e w1 ⟨rfl, hg1⟩) | ((with_reducible refine is_store 57 2 5 ?_); refine st_row 57 2 5 (w.heap.size + 1) _ _ _ rfl rfl (blk_kept (heap_alloc2_new _ _ _) hg1) sz_msg rfl rfl ?_; intro w2 hb2 hg2))
  refine ret_row rfl (w.heap.size + 1) _ _ rfl hb2 Try.underlying57 sz_msg ⟨rfl, ?_⟩
  exact gb_new (gb_same (gb_of_below (by go_grown)) hg1) hg2 (by omega)
set_option maxRecDepth 100000 in
set_option maxHeartbeats 400000 in
theorem ent_nil (w : World) : Calls Try.prog 53 #[.pointer none] w (NilPost zent w) := by
  have hm := hmf
  go_enter Try.func53, Try.ntmps53
  go_wp2_with (first | (go_at_call 89; refine (value_nil_Entry _ _).mono ?_; rintro e w1 ⟨rfl, hg1⟩) | ((with_reducible refine is_store 65 2 5 ?_); refine st_row 65 2 5 (w.heap.size + 1) _ _ _ rfl rfl (blk_kept (heap_alloc2_new _ _ _) hg1) sz_ent rfl rfl ?_; intro w2 hb2 hg2))
  refine ret_row rfl (w.heap.size + 1) _ _ rfl hb2 Try.underlying65 sz_ent ⟨rfl, ?_⟩
  exact gb_new (gb_same (gb_of_below (by go_grown)) hg1) hg2 (by omega)
end Go.Proofs.Ytmleeidanbhihaa
