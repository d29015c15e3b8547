/-
  wire.Bool.
-/
import Derived.Test.YtjijiondinbmnaaWC
namespace Go.Proofs.Ytjijiondinbmnaa
open Go.RowKit
def encB (v : Bool) : List UInt8 := if v then [1] else [0]

set_option maxRecDepth 100000 in
set_option maxHeartbeats 400000 in
theorem wbool_any (v : Value) (t : Bool) (w : World) (B : Nat) (x : List UInt8) (hown : Own w B v x) (hB : B ≤ w.heap.size) (hlen : x.length ≤ 1099511627776) :
    Calls Try.prog 42 #[v, .bool t] w (IntPost w B v (x ++ encB t)) := by
  have HO := Lib.hid hown
  clear hown
  cases t with
  | true =>
    go_enter Try.func42, Try.ntmps42
    go_wp2_with (at_builtin; refine app_bytes rfl _ _ rfl B v _ x [1] rfl rfl (HO.out.grown (gb_alloc _ _ _)) (Rd.litv _ _ _ _ rfl) (by simp; omega) (by simp; omega) ?_; intro v' w1 ho1 hg1 hf1)
    go_ret
    exact ⟨v', rfl, ho1, gb_fr (gb_alloc _ _ _) (Fr.refl _ _) hg1, (Fr.refl _ _).trans (by simp) hf1⟩
  | false =>
    go_enter Try.func42, Try.ntmps42
    go_wp2_with (at_builtin; refine app_bytes rfl _ _ rfl B v _ x [0] rfl rfl (HO.out.grown (gb_alloc _ _ _)) (Rd.litv _ _ _ _ rfl) (by simp; omega) (by simp; omega) ?_; intro v' w1 ho1 hg1 hf1)
    go_ret
    exact ⟨v', rfl, ho1, gb_fr (gb_alloc _ _ _) (Fr.refl _ _) hg1, (Fr.refl _ _).trans (by simp) hf1⟩
end Go.Proofs.Ytjijiondinbmnaa
