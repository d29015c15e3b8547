/-
  The methods of a Reader on a nil pointer: the walks.
-/
import Derived.Test.YtgfopepopcacmaaAwake
namespace Go.Proofs.Ytgfopepopcacmaa
open Go.RowKit

def NilPost (v : Value) (w : World) (e : Ending) (w' : World) : Prop := e = .returned v ∧ w.grownBy w' none
theorem hmf : ∀ (fn : Fn) (first cap : Array Value) (w : World), (Instr.makeFunc fn first cap).run Try.prog w = .ok (.func fn first cap) w := fun _ _ _ _ => rfl

set_option maxRecDepth 100000 in
set_option maxHeartbeats 400000 in
theorem value_nil_int (fv : Value) (w : World) : Calls Try.prog 66 #[.pointer none, fv] w (NilPost (.int .i64 0) w) := by
  go_enter Try.func66, Try.ntmps66
  go_wp2
  go_ret
  exact ⟨rfl, gb_of_below (by go_grown)⟩


set_option maxRecDepth 100000 in
set_option maxHeartbeats 400000 in
theorem value_nil_bool (fv : Value) (w : World) : Calls Try.prog 68 #[.pointer none, fv] w (NilPost (.bool false) w) := by
  go_enter Try.func68, Try.ntmps68
  go_wp2
  go_ret
  exact ⟨rfl, gb_of_below (by go_grown)⟩


set_option maxRecDepth 100000 in
set_option maxHeartbeats 400000 in
theorem value_nil_string (fv : Value) (w : World) : Calls Try.prog 71 #[.pointer none, fv] w (NilPost (.string ⟨#[]⟩) w) := by
  go_enter Try.func71, Try.ntmps71
  go_wp2
  go_ret
  exact ⟨rfl, gb_of_below (by go_grown)⟩


set_option maxRecDepth 100000 in
set_option maxHeartbeats 400000 in
theorem value_nil_s_byte (fv : Value) (w : World) : Calls Try.prog 73 #[.pointer none, fv] w (NilPost (.slice none 0 0) w) := by
  go_enter Try.func73, Try.ntmps73
  go_wp2
  go_ret
  exact ⟨rfl, gb_of_below (by go_grown)⟩


set_option maxRecDepth 100000 in
set_option maxHeartbeats 400000 in
theorem value_nil_s_int (fv : Value) (w : World) : Calls Try.prog 93 #[.pointer none, fv] w (NilPost (.slice none 0 0) w) := by
  go_enter Try.func93, Try.ntmps93
  go_wp2
  go_ret
  exact ⟨rfl, gb_of_below (by go_grown)⟩


set_option maxRecDepth 100000 in
set_option maxHeartbeats 400000 in
theorem value_nil_s_string (fv : Value) (w : World) : Calls Try.prog 95 #[.pointer none, fv] w (NilPost (.slice none 0 0) w) := by
  go_enter Try.func95, Try.ntmps95
  go_wp2
  go_ret
  exact ⟨rfl, gb_of_below (by go_grown)⟩


set_option maxRecDepth 100000 in
set_option maxHeartbeats 400000 in
theorem value_nil_s_Effect (fv : Value) (w : World) : Calls Try.prog 98 #[.pointer none, fv] w (NilPost (.slice none 0 0) w) := by
  go_enter Try.func98, Try.ntmps98
  go_wp2
  go_ret
  exact ⟨rfl, gb_of_below (by go_grown)⟩


set_option maxRecDepth 100000 in
set_option maxHeartbeats 400000 in
theorem bounded_nil (a b : Int) (w : World) : Calls Try.prog 28 #[.pointer none, .int .i64 a, .int .i64 b] w (NilPost (.int .i64 0) w) := by
  go_enter Try.func28, Try.ntmps28
  have hm := hmf
  go_wp2_with (go_at_call 66; refine (value_nil_int _ _).mono ?_; rintro e w1 ⟨rfl, hg1⟩)
  go_ret
  exact ⟨rfl, gb_same (gb_of_below (by go_grown)) hg1⟩


set_option maxRecDepth 100000 in
set_option maxHeartbeats 400000 in
theorem bool_nil (w : World) : Calls Try.prog 29 #[.pointer none] w (NilPost (.bool false) w) := by
  go_enter Try.func29, Try.ntmps29
  have hm := hmf
  go_wp2_with (go_at_call 68; refine (value_nil_bool _ _).mono ?_; rintro e w1 ⟨rfl, hg1⟩)
  go_ret
  exact ⟨rfl, gb_same (gb_of_below (by go_grown)) hg1⟩


set_option maxRecDepth 100000 in
set_option maxHeartbeats 400000 in
theorem string_nil (a : Int) (w : World) : Calls Try.prog 30 #[.pointer none, .int .i64 a] w (NilPost (.string ⟨#[]⟩) w) := by
  go_enter Try.func30, Try.ntmps30
  have hm := hmf
  go_wp2_with (go_at_call 71; refine (value_nil_string _ _).mono ?_; rintro e w1 ⟨rfl, hg1⟩)
  go_ret
  exact ⟨rfl, gb_same (gb_of_below (by go_grown)) hg1⟩


set_option maxRecDepth 100000 in
set_option maxHeartbeats 400000 in
theorem bytes_nil (a : Int) (w : World) : Calls Try.prog 31 #[.pointer none, .int .i64 a] w (NilPost (.slice none 0 0) w) := by
  go_enter Try.func31, Try.ntmps31
  have hm := hmf
  go_wp2_with (go_at_call 73; refine (value_nil_s_byte _ _).mono ?_; rintro e w1 ⟨rfl, hg1⟩)
  go_ret
  exact ⟨rfl, gb_same (gb_of_below (by go_grown)) hg1⟩


set_option maxRecDepth 100000 in
set_option maxHeartbeats 400000 in
theorem list_nil_int (a : Int) (fv : Value) (w : World) : Calls Try.prog 63 #[.pointer none, .int .i64 a, fv] w (NilPost (.slice none 0 0) w) := by
  go_enter Try.func63, Try.ntmps63
  have hm := hmf
  go_wp2_with (go_at_call 93; refine (value_nil_s_int _ _).mono ?_; rintro e w1 ⟨rfl, hg1⟩)
  go_ret
  exact ⟨rfl, gb_same (gb_of_below (by go_grown)) hg1⟩


set_option maxRecDepth 100000 in
set_option maxHeartbeats 400000 in
theorem list_nil_string (a : Int) (fv : Value) (w : World) : Calls Try.prog 64 #[.pointer none, .int .i64 a, fv] w (NilPost (.slice none 0 0) w) := by
  go_enter Try.func64, Try.ntmps64
  have hm := hmf
  go_wp2_with (go_at_call 95; refine (value_nil_s_string _ _).mono ?_; rintro e w1 ⟨rfl, hg1⟩)
  go_ret
  exact ⟨rfl, gb_same (gb_of_below (by go_grown)) hg1⟩


set_option maxRecDepth 100000 in
set_option maxHeartbeats 400000 in
theorem list_nil_Effect (a : Int) (fv : Value) (w : World) : Calls Try.prog 87 #[.pointer none, .int .i64 a, fv] w (NilPost (.slice none 0 0) w) := by
  go_enter Try.func87, Try.ntmps87
  have hm := hmf
  go_wp2_with (go_at_call 98; refine (value_nil_s_Effect _ _).mono ?_; rintro e w1 ⟨rfl, hg1⟩)
  go_ret
  exact ⟨rfl, gb_same (gb_of_below (by go_grown)) hg1⟩


set_option maxRecDepth 100000 in
set_option maxHeartbeats 400000 in
theorem ints_nil (a : Int) (w : World) : Calls Try.prog 25 #[.pointer none, .int .i64 a] w (NilPost (.slice none 0 0) w) := by
  go_enter Try.func25, Try.ntmps25
  have hm := hmf
  go_wp2_with (go_at_call 63; refine (list_nil_int _ _ _).mono ?_; rintro e w1 ⟨rfl, hg1⟩)
  go_ret
  exact ⟨rfl, gb_same (gb_of_below (by go_grown)) hg1⟩


set_option maxRecDepth 100000 in
set_option maxHeartbeats 400000 in
theorem strings_nil (a : Int) (w : World) : Calls Try.prog 27 #[.pointer none, .int .i64 a] w (NilPost (.slice none 0 0) w) := by
  go_enter Try.func27, Try.ntmps27
  have hm := hmf
  go_wp2_with (go_at_call 64; refine (list_nil_string _ _ _).mono ?_; rintro e w1 ⟨rfl, hg1⟩)
  go_ret
  exact ⟨rfl, gb_same (gb_of_below (by go_grown)) hg1⟩


set_option maxRecDepth 100000 in
set_option maxHeartbeats 400000 in
theorem effects_nil (w : World) : Calls Try.prog 52 #[.pointer none] w (NilPost (.slice none 0 0) w) := by
  go_enter Try.func52, Try.ntmps52
  have hm := hmf
  go_wp2_with (go_at_call 87; refine (list_nil_Effect _ _ _).mono ?_; rintro e w1 ⟨rfl, hg1⟩)
  go_ret
  exact ⟨rfl, gb_same (gb_of_below (by go_grown)) hg1⟩


end Go.Proofs.Ytgfopepopcacmaa
