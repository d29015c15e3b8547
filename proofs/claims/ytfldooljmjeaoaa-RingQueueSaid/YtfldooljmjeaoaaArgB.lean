/-
  What the arguments of a law come as: a byte slice, readable in the world of the call.
-/
import Derived.Test.YtfldooljmjeaoaaLaw
import Derived.Test.YtfldooljmjeaoaaCore
namespace Go.Proofs.Ytfldooljmjeaoaa
open Go.ChangeShapes Go.WideShapes Go.ChangeAt Go.RowKit

theorem maxLen_eq : maxLen = 9223372036854775807 := by kernel_rfl

theorem slice_arg {P : Program} {W : World} {base : Nat} {t e : TypeId} {v : Value} (ht : P.underlying t = some (.slice e)) (hval : Value.okWide P W .any base t v) :
    v = .slice none 0 0 ∨ ∃ b off n c, v = .slice (some ⟨b, off, none⟩) n c ∧ n ≤ c ∧ c ≤ maxLen := by
  obtain ⟨a, n, c, rfl⟩ := okWide_slice ht hval
  simp only [Value.okWide, ht, Cell.okWide] at hval
  cases a with
  | none =>
    left
    unfold Cell.ok at hval
    rw [ht] at hval
    cases n <;> cases c <;> simp_all
  | some a =>
    right
    unfold Cell.ok at hval
    rw [ht] at hval
    obtain ⟨h1, h2, h3⟩ := hval
    obtain ⟨b, off, sp⟩ := a
    have : sp = none := h3.2.1
    subst this
    refine ⟨b, off, n, c, rfl, h1, ?_⟩
    rw [maxLen_eq]
    have e1 : IntKind.i64.max = 9223372036854775807 := by kernel_rfl
    rw [e1] at h2
    omega

section
variable {H : Type} {enc : TypeId × Value → H}
set_option maxRecDepth 100000 in
theorem bytes_of {W : World} {v : Value} {d : DataW H} {p : List MemPlace} (hs : v = .slice none 0 0 ∨ ∃ b off n c, v = .slice (some ⟨b, off, none⟩) n c ∧ n ≤ c ∧ c ≤ maxLen) (h : DataW.Trod enc Try.prog W 0 (fun _ => true) true 22 v d p) :
    ∃ l : List UInt8, Rd W v l := by
  obtain ⟨fuel, hf⟩ := h
  rcases hs with rfl | ⟨b, off, n, c, rfl, hn, hc⟩
  · exact ⟨[], .inl ⟨rfl, rfl⟩⟩
  · rcases open_ints Try.underlying22 Try.underlying5 (by kernel_rfl) hf with ⟨hcs, hx⟩ | ⟨a, len, cap, zs, hcs, _, hl, hm, hz, hx, hcell, hwz⟩
    · simp [Value.cells] at hcs
    · simp only [Value.cells, List.cons.injEq, Value.slice.injEq, Option.some.injEq, and_true] at hcs
      obtain ⟨rfl, rfl, rfl⟩ := hcs
      simp only [if_true] at hz
      have hlen : ((zs.take n).map fun m => UInt8.ofNat m.toNat).length = n := by simp; omega
      refine ⟨(zs.take n).map fun m => UInt8.ofNat m.toNat, .inr ⟨b, off, c, by rw [hlen], by rw [hlen]; exact hn, hc, fun j x hj => ?_⟩⟩
      simp only [List.getElem?_map, Option.map_eq_some_iff] at hj
      obtain ⟨y, hy, rfl⟩ := hj
      obtain ⟨h1, h2⟩ := List.getElem?_eq_some_iff.1 hy
      have hjn : j < zs.length := by simp at h1; omega
      have hcj := hcell j hjn
      rw [addr_add] at hcj
      rw [hcj]
      rw [List.getElem_take] at h2
      have hb := range_u8 hwz j
      have e : zs[j]? = some y := by rw [List.getElem?_eq_getElem hjn, h2]
      simp only [e, Option.getD_some] at hb
      simp only [List.getD, e, Option.getD_some, bv]
      congr 2
      simp only [UInt8.toNat_ofNat']
      omega
set_option maxRecDepth 100000 in
theorem arg_bytes {W : World} {base : Nat} {v : Value} {d : DataW H} {p : List MemPlace} (hval : Value.okWide Try.prog W .any base 22 v) (h : DataW.Trod enc Try.prog W 0 (fun _ => true) true 22 v d p) :
    ∃ l : List UInt8, Rd W v l := bytes_of (slice_arg Try.underlying22 hval) h
end
end Go.Proofs.Ytfldooljmjeaoaa
