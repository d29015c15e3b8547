/-
  What a byte comes as, as the argument of a law.
-/
import Derived.Test.YtfdkmncjcehdkaaUArg
namespace Go.Proofs.Ytfdkmncjcehdkaa
open Go.ChangeShapes Go.WideShapes Go.ChangeAt Go.RowKit

section
variable {H : Type} {enc : TypeId × Value → H} {W : World} {base : Nat}
theorem u8_of {n : Int} (h1 : IntKind.u8.min ≤ n) (h2 : n ≤ IntKind.u8.max) : ∃ t : UInt8, n = (t.toNat : Int) := by
  have e1 : IntKind.u8.min = 0 := by kernel_rfl
  have e2 : IntKind.u8.max = 255 := by kernel_rfl
  rw [e1] at h1
  rw [e2] at h2
  exact ⟨UInt8.ofNat n.toNat, by rw [UInt8.toNat_ofNat']; omega⟩
set_option maxRecDepth 100000 in
theorem arg_u8 {sp : Nat → Bool} {held : Bool} {b0 : Nat} {v : Value} {d : DataW H} {p : List MemPlace} (hval : Value.okWide Try.prog W .any base 5 v) (h : DataW.Trod enc Try.prog W b0 sp held 5 v d p) : ∃ t : UInt8, v = .int .u8 (t.toNat : Int) := by
  obtain ⟨n, rfl, _, _, hw⟩ := open_int Try.underlying5 hval h
  simp only [Lit.wf, Bool.and_eq_true, decide_eq_true_eq] at hw
  obtain ⟨t, rfl⟩ := u8_of hw.1 hw.2
  exact ⟨t, rfl⟩
end
end Go.Proofs.Ytfdkmncjcehdkaa
