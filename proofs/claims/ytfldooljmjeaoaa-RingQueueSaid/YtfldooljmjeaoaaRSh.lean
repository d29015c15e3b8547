/-
  law.short, and the reference's Same on equal bytes: the walks.
-/
import Derived.Test.YtfldooljmjeaoaaRArg
namespace Go.Proofs.Ytfldooljmjeaoaa
open Go.RowKit

set_option maxRecDepth 100000 in
set_option maxHeartbeats 400000 in
theorem same_gW (a b : Value) (w : World) (l : List UInt8) (ha : RdW w a l) (hb : RdW w b l) :
    Calls Try.prog 20 #[a, b] w fun e w' => e = .returned (.bool true) ∧ w.grownBy w' none := by
  have r1 := run_toStringW w a l ha
  have r2 := run_toStringW w b l hb
  clear ha hb
  go_enter Try.func20, Try.ntmps20
  go_wp2
  go_ret
  exact ⟨rfl, gb_refl _ _⟩

def shortB (ps : List RP) : Bool := ps.all (fun p => decide (p.1.2.2.length ≤ 200)) && decide (ps.length ≤ 40)
theorem shortB_spec {ps : List RP} (h : shortB ps = true) : (∀ p ∈ ps, p.1.2.2.length ≤ 200) ∧ ps.length ≤ 40 := by
  unfold shortB at h
  simp only [Bool.and_eq_true, List.all_eq_true, decide_eq_true_eq] at h
  exact h
def BoolS (t : Bool) (w : World) (e : Ending) (w' : World) : Prop := e = .returned (.bool t) ∧ w = w'
end Go.Proofs.Ytfldooljmjeaoaa
