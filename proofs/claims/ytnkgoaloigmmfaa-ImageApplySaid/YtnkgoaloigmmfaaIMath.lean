/-
  The patch between an image and one that differs in one byte: the plain mathematics.
-/
import Derived.Test.YtnkgoaloigmmfaaIDiff
namespace Go.Proofs.Ytnkgoaloigmmfaa
open Go.RowKit

theorem pgN (l : List UInt8) (k : Nat) : pg l (k : Int) = (l.drop (k * 128)).take 128 := by
  unfold pg; rw [if_neg (by omega), Int.toNat_natCast]
theorem pg_get (l : List UInt8) (k j : Nat) : (pg l (k : Int))[j]? = if j < 128 then l[k * 128 + j]? else none := by
  rw [pgN, List.getElem?_take]
  split
  · rw [List.getElem?_drop]
  · rfl
theorem pg_set_ne (l : List UInt8) (i k : Nat) (x : UInt8) (h : k ≠ i / 128) : pg (l.set i x) (k : Int) = pg l (k : Int) := by
  apply List.ext_getElem?
  intro j
  rw [pg_get, pg_get]
  split
  · rw [List.getElem?_set_ne (by omega)]
  · rfl
theorem pg_set_eq (l : List UInt8) (i : Nat) (x : UInt8) (hi : i < l.length) (hx : x ≠ l[i]) : pg (l.set i x) ((i / 128 : Nat) : Int) ≠ pg l ((i / 128 : Nat) : Int) := by
  intro e
  have h := congrArg (·[i % 128]?) e
  simp only [pg_get] at h
  rw [if_pos (Nat.mod_lt _ (by omega)), if_pos (Nat.mod_lt _ (by omega)), show i / 128 * 128 + i % 128 = i by omega, List.getElem?_set_self hi, List.getElem?_eq_getElem hi] at h
  exact hx (Option.some.inj h)
theorem range_one (f : Nat → List CT) (c : CT) (j : Nat) (h1 : f j = [c]) (h2 : ∀ k, k ≠ j → f k = []) : ∀ N, (List.range N).flatMap f = if j < N then [c] else [] := by
  intro N
  induction N with
  | zero => simp
  | succ N ih =>
    rw [List.range_succ, List.flatMap_append, ih, List.flatMap_singleton]
    by_cases h : j = N
    · subst h
      rw [if_neg (by omega), if_pos (by omega), h1]; rfl
    · rw [h2 N (fun e => h e.symm)]
      by_cases h3 : j < N
      · rw [if_pos h3, if_pos (by omega)]; rfl
      · rw [if_neg h3, if_neg (by omega)]; rfl
theorem cnt_toNat (n : Nat) : (cntI n).toNat = (n + 127) / 128 := by
  unfold cntI
  split <;> omega
theorem diff_local (l : List UInt8) (i : Nat) (x : UInt8) (hi : i < l.length) (hx : x ≠ l[i]) : diffL l (l.set i x) = [(((i / 128 : Nat) : Int), pg (l.set i x) ((i / 128 : Nat) : Int))] := by
  unfold diffL diffTo
  rw [range_one _ _ (i / 128) (by unfold diffAt; rw [if_neg (by simpa using pg_set_eq l i x hi hx)]) (fun k hk => by unfold diffAt; rw [if_pos (by simpa using pg_set_ne l i k x hk)])]
  rw [if_pos (by rw [cnt_toNat, List.length_set]; omega)]

theorem xor_u8 (x y : UInt8) : bits .xor .u8 (x.toNat : Int) (y.toNat : Int) = ((x ^^^ y).toNat : Int) := by
  show IntKind.u8.wrap ((BitVec.ofInt 8 (x.toNat : Int) ^^^ BitVec.ofInt 8 (y.toNat : Int)).toNat : Int) = _
  have h1 : ∀ z : UInt8, BitVec.ofInt 8 (z.toNat : Int) = z.toBitVec := fun z => by
    rw [BitVec.ofInt_natCast]
    apply BitVec.eq_of_toNat_eq
    rw [BitVec.toNat_ofNat]
    exact Nat.mod_eq_of_lt z.toNat_lt
  rw [h1, h1]
  have h2 : (x.toBitVec ^^^ y.toBitVec).toNat = (x ^^^ y).toNat := rfl
  rw [h2]
  have := (x ^^^ y).toNat_lt
  have h3 : IntKind.u8.wrap ((x ^^^ y).toNat : Int) = ((x ^^^ y).toNat : Int) % 256 := by
    generalize ((x ^^^ y).toNat : Int) = z
    simp [IntKind.wrap, IntKind.bits, IntKind.signed]
  rw [h3]
  omega
theorem xor_ne {c m : UInt8} (hm : m ≠ 0) : c ^^^ m ≠ c := by
  intro e
  apply hm
  have := congrArg (c ^^^ ·) e
  simp only [UInt8.xor_self] at this
  rw [← UInt8.xor_assoc, UInt8.xor_self, UInt8.zero_xor] at this
  exact this
end Go.Proofs.Ytnkgoaloigmmfaa
