/-
  What the arguments of a law come as: a message, a change, a byte.
-/
import Derived.Test.YtbibgjkcapjgnaaArgA
namespace Go.Proofs.Ytbibgjkcapjgnaa
open Go.ChangeShapes Go.WideShapes Go.ChangeAt Go.RowKit
section
variable {H : Type} {enc : TypeId × Value → H} {W : World} {base : Nat}
theorem cell_u64 {x : Value} (h : Cell.okWide Try.prog W .any base 22 x) : ∃ n : Nat, x = .int .u64 (n : Int) ∧ n < 18446744073709551616 := by
  obtain ⟨n, rfl, h1, h2⟩ := cell_int Try.underlying22 h
  have e1 : IntKind.u64.min = 0 := by kernel_rfl
  have e2 : IntKind.u64.max = 18446744073709551615 := by kernel_rfl
  rw [e1] at h1
  rw [e2] at h2
  exact ⟨n.toNat, by congr 1; omega, by omega⟩
theorem cell_u16 {x : Value} (h : Cell.okWide Try.prog W .any base 32 x) : ∃ n : Nat, x = .int .u16 (n : Int) ∧ n < 65536 := by
  obtain ⟨n, rfl, h1, h2⟩ := cell_int Try.underlying32 h
  have e1 : IntKind.u16.min = 0 := by kernel_rfl
  have e2 : IntKind.u16.max = 65535 := by kernel_rfl
  rw [e1] at h1
  rw [e2] at h2
  exact ⟨n.toNat, by congr 1; omega, by omega⟩
theorem u8_of {n : Int} (h1 : IntKind.u8.min ≤ n) (h2 : n ≤ IntKind.u8.max) : ∃ t : UInt8, n = (t.toNat : Int) := by
  have e1 : IntKind.u8.min = 0 := by kernel_rfl
  have e2 : IntKind.u8.max = 255 := by kernel_rfl
  rw [e1] at h1
  rw [e2] at h2
  exact ⟨UInt8.ofNat n.toNat, by rw [UInt8.toNat_ofNat']; omega⟩
theorem cell_u8 {x : Value} (h : Cell.okWide Try.prog W .any base 5 x) : ∃ t : UInt8, x = .int .u8 (t.toNat : Int) := by
  obtain ⟨n, rfl, h1, h2⟩ := cell_int Try.underlying5 h
  obtain ⟨t, rfl⟩ := u8_of h1 h2
  exact ⟨t, rfl⟩
theorem arg_u8 {sp : Nat → Bool} {held : Bool} {b0 : Nat} {v : Value} {d : DataW H} {p : List MemPlace} (hval : Value.okWide Try.prog W .any base 5 v) (h : DataW.Trod enc Try.prog W b0 sp held 5 v d p) : ∃ t : UInt8, v = .int .u8 (t.toNat : Int) := by
  obtain ⟨n, rfl, _, _, hw⟩ := open_int Try.underlying5 hval h
  simp only [Lit.wf, Bool.and_eq_true, decide_eq_true_eq] at hw
  obtain ⟨t, rfl⟩ := u8_of hw.1 hw.2
  exact ⟨t, rfl⟩
theorem msg_data {x0 x1 x2 x3 x4 x5 x6 x7 x8 : Value} {d : DataW H} {p : List MemPlace} (hc : Cell.okWide Try.prog W .any base 23 x8)
    (h : DataW.Trod enc Try.prog W 0 (fun _ => true) true 39 (.agg [x0, x1, x2, x3, x4, x5, x6, x7, x8].toArray) d p) : ∃ l : List UInt8, Rd W x8 l := by
  obtain ⟨fuel, hf⟩ := h
  have hu := Try.underlying39
  obtain ⟨m, y, hy⟩ := trod_field hu hf (i := 5) rfl
  have hs := cell_slice Try.underlying23 hc
  have hcs : (Value.agg [x0, x1, x2, x3, x4, x5, x6, x7, x8].toArray).cells.toList = [x0, x1, x2, x3, x4, x5, x6, x7, x8] := by simp [Value.cells]
  refine bytes_of (enc := enc) (p := y.2) (d := y.1) hs ⟨m, ?_⟩
  have hk : (x8.cells.toList : List Value) = [x8] := by rcases hs with rfl | ⟨_, _, _, _, rfl, _⟩ <;> rfl
  rw [hk]
  rw [hcs] at hy
  have h1 : Try.prog.cellsOf 23 = 1 := by kernel_rfl
  have hy2 : DataW.trod enc Try.prog W 0 (fun _ => true) true m 23 (([x0, x1, x2, x3, x4, x5, x6, x7, x8].drop 8).take (Try.prog.cellsOf 23)) = some y := hy
  rw [h1] at hy2
  exact hy2
end
end Go.Proofs.Ytbibgjkcapjgnaa
