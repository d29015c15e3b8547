/-
  (*wire.Reader).Int: the walk.
-/
import Derived.Test.YtgfopepopcacmaaNumMath
namespace Go.Proofs.Ytgfopepopcacmaa
open Go.RowKit

theorem number_nil (w : World) : Calls Try.prog 78 #[.slice none 0 0] w (NumPost w (num [])) := by
  have e : num [] = (0, 0) := rfl
  rw [e]
  go_enter Try.func78, Try.ntmps78
  go_wp2
  go_rounds 1
  go_ret2
  exact ⟨rfl, 0, rfl⟩

theorem number_rd (v : Value) (bs : List UInt8) (w : World) (h : Rd w v bs) (hsm : bs.length ≤ 1099511627776) : Calls Try.prog 78 #[v] w (NumPost w (num bs)) := by
  rcases h with ⟨rfl, rfl⟩ | ⟨b, off, cap, rfl, h1, h2, h3⟩
  · exact number_nil w
  · exact number_any b off cap bs w h1 h2 h3 hsm

/-- what an operation on a reader leaves -/
def ROut (w : World) (b : Nat) (sl : Value) (bs : List UInt8) (p : Nat) (zero : Value) (r : Option (Value × Nat)) (e : Ending) (w' : World) : Prop :=
  match r with
  | some (v, q) => e = .returned v ∧ IsR w' b sl bs q false ∧ w.grownBy w' (some b)
  | none => e = .returned zero ∧ IsR w' b sl bs p true ∧ w.grownBy w' (some b)

/-- the integer that begins at a position, and the position behind it -/
def rdInt (bs : List UInt8) (p : Nat) : Option (Int × Nat) := if (num (bs.drop p)).2 = 0 then none else some (unzz (num (bs.drop p)).1, p + (num (bs.drop p)).2)

theorem i64_xor_m1 {a : Int} (h1 : 0 ≤ a) (h2 : a ≤ 9223372036854775807) : bits .xor .i64 a (-1) = -a - 1 := by
  obtain ⟨n, rfl⟩ := Int.eq_ofNat_of_zero_le h1
  have hn : n < 2 ^ 64 := by omega
  have e1 : (BitVec.ofInt 64 (n : Int)).toNat = n := by rw [BitVec.ofInt_natCast, BitVec.toNat_ofNat, Nat.mod_eq_of_lt hn]
  have e2 : (BitVec.ofInt 64 (-1)) = BitVec.allOnes 64 := by decide
  have e3 : ((BitVec.ofInt 64 (n : Int)) ^^^ (BitVec.ofInt 64 (-1))).toNat = 2 ^ 64 - 1 - n := by
    rw [e2, BitVec.xor_allOnes, BitVec.toNat_not, e1]
  have e4 : bits .xor .i64 (n : Int) (-1) = IntKind.i64.wrap (((BitVec.ofInt 64 (n : Int)) ^^^ (BitVec.ofInt 64 (-1))).toNat : Int) := rfl
  rw [e4, e3, IntKind.wrap_i64]
  omega
theorem i64_xor_0 {a : Int} (h1 : 0 ≤ a) (h2 : a ≤ 9223372036854775807) : bits .xor .i64 a 0 = a := by
  obtain ⟨n, rfl⟩ := Int.eq_ofNat_of_zero_le h1
  have hn : n < 2 ^ 64 := by omega
  have e1 : (BitVec.ofInt 64 (n : Int)).toNat = n := by rw [BitVec.ofInt_natCast, BitVec.toNat_ofNat, Nat.mod_eq_of_lt hn]
  have e2 : (BitVec.ofInt 64 0) = 0#64 := by decide
  have e3 : ((BitVec.ofInt 64 (n : Int)) ^^^ (BitVec.ofInt 64 0)).toNat = n := by
    rw [e2, BitVec.xor_zero, e1]
  have e4 : bits .xor .i64 (n : Int) 0 = IntKind.i64.wrap (((BitVec.ofInt 64 (n : Int)) ^^^ (BitVec.ofInt 64 0)).toNat : Int) := rfl
  rw [e4, e3, IntKind.wrap_i64]
  omega

theorem unzz_walk {u : Nat} (h : u < 18446744073709551616) :
    bits .xor .i64 (IntKind.i64.wrap ((u : Int) / 2)) (IntKind.i64.wrap (-IntKind.i64.wrap (bits .and .u64 (u : Int) 1))) = unzz u := by
  have e0 : bits .and .u64 (u : Int) 1 = ((u % 2 : Nat) : Int) := by
    rw [show (1 : Int) = ((1 : Nat) : Int) from rfl, u64_and_nat _ _ h (by omega), nat_mask1]
  have e1 : IntKind.i64.wrap ((u : Int) / 2) = ((u / 2 : Nat) : Int) := by rw [IntKind.wrap_i64]; omega
  rw [e0, e1]
  have e2 : IntKind.i64.wrap ((u % 2 : Nat) : Int) = ((u % 2 : Nat) : Int) := by rw [IntKind.wrap_i64]; omega
  rw [e2]
  unfold unzz
  split
  · rename_i h2
    rw [h2, show IntKind.i64.wrap (-((0 : Nat) : Int)) = 0 by rw [IntKind.wrap_i64]; rfl]
    exact i64_xor_0 (by omega) (by omega)
  · rename_i h2
    rw [show u % 2 = 1 by omega, show IntKind.i64.wrap (-((1 : Nat) : Int)) = -1 by rw [IntKind.wrap_i64]; rfl]
    exact i64_xor_m1 (by omega) (by omega)

theorem unzz_walk' {u : Nat} (h : u < 18446744073709551616) :
    bits .xor .i64 (wrap64 ((u : Int) / 2)) (wrap64 (-wrap64 (bits .and .u64 (u : Int) 1))) = unzz u := by
  have := unzz_walk h
  simp only [IntKind.wrap_i64] at this
  simp only [wrap64]
  exact this

theorem Rd.drop {w : World} {g off cap : Nat} {bs : List UInt8} (h1 : bs.length ≤ cap) (h2 : cap ≤ maxLen) (h3 : ∀ (j : Nat) (x : UInt8), bs[j]? = some x → w.cell? ⟨g, off + j, none⟩ = some (bv x)) (p : Nat) (hp : p ≤ bs.length) :
    Rd w (.slice (some ⟨g, off + p, none⟩) (bs.length - p) (cap - p)) (bs.drop p) :=
  .inr ⟨g, off + p, cap - p, by rw [List.length_drop], by rw [List.length_drop]; omega, by omega, fun j x hj => by
    rw [List.getElem?_drop] at hj
    rw [Nat.add_assoc]
    exact h3 _ _ hj⟩
theorem Rd.empty {w : World} (g off cap : Nat) (h2 : cap ≤ maxLen) : Rd w (.slice (some ⟨g, off, none⟩) 0 cap) [] :=
  .inr ⟨g, off, cap, rfl, Nat.zero_le _, h2, fun j x hj => by simp at hj⟩

theorem rdInt_le {bs : List UInt8} {p : Nat} {v : Int} {q : Nat} (hp : p ≤ bs.length) (h : rdInt bs p = some (v, q)) : p < q ∧ q ≤ bs.length := by
  unfold rdInt at h
  split at h
  · cases h
  · simp only [Option.some.injEq, Prod.mk.injEq] at h
    have := num_le (bs.drop p)
    rw [List.length_drop] at this
    omega


set_option maxRecDepth 100000 in
set_option maxHeartbeats 400000 in
theorem rint_any (b : Nat) (sl : Value) (bs : List UInt8) (p : Nat) (w : World) (h : IsR w b sl bs p false) :
    Calls Try.prog 40 #[.pointer (some ⟨b, 0, none⟩)] w (ROut w b sl bs p (.int .i64 0) ((rdInt bs p).map fun r => (.int .i64 r.1, r.2))) := by
  have c0 := h.c0
  have c1 := h.c1
  have c2 := h.c2
  have f1 := h.fr 1
  have f2 := h.fr 2
  have hle := h.le
  have hrd := h.rd
  have H := Lib.hid h
  clear h
  rcases hrd with ⟨rfl, rfl⟩ | ⟨g, off, cap, rfl, h1, h2, h3⟩
  · have hp0 : p = 0 := by simpa using hle
    subst hp0
    have HN := Lib.hid (fun n => number_nil (w.drewN n))
    go_enter Try.func40, Try.ntmps40
    go_wp2
    go_quiet ((go_at_call 78; exact Calls.quiet_of (HN.out _)))
    go_wp2
    go_ret
    exact ⟨rfl, (H.out.grown (gb_drewN _ _ _)).setF true, gb_same (gb_drewN _ _ _) (gb_setCell _ _ _)⟩
  · have hpc : p < cap ∨ p = cap := by omega
    have HN : p < cap → ∀ n, Calls Try.prog 78 #[.slice (some ⟨g, off + p, none⟩) (bs.length - p) (cap - p)] (w.drewN n) (NumPost (w.drewN n) (num (bs.drop p))) := fun _ n =>
      number_rd _ _ _ ((Rd.drop h1 h2 h3 p hle).kept (gb_drewN _ _ none) (by simp)) (by rw [List.length_drop]; have := H.out.sm; omega)
    have HN0 : p = cap → ∀ n, Calls Try.prog 78 #[.slice (some ⟨g, off, none⟩) 0 0] (w.drewN n) (NumPost (w.drewN n) (num (bs.drop p))) := fun hp n => by
      rw [List.drop_eq_nil_iff.2 (by omega)]
      exact number_rd _ _ _ (Rd.empty g off 0 (Nat.zero_le _)) (by simp)
    have HN := Lib.hid HN
    have HN0 := Lib.hid HN0
    have hr : (num (bs.drop p)).2 ≤ bs.length - p := by have := num_le (bs.drop p); rwa [List.length_drop] at this
    have hr64 : (num (bs.drop p)).2 ≠ 0 → (num (bs.drop p)).1 < 18446744073709551616 := fun h => (num_canon (u := (num (bs.drop p)).1) (k := (num (bs.drop p)).2) rfl h).1
    unfold rdInt
    generalize num (bs.drop p) = r at *
    obtain ⟨u, k⟩ := r
    clear h3
    have Hu := Lib.hid hr64
    clear hr64
    simp only at hr
    have hsm := Lib.hid H.out.sm
    rcases hpc with hpc | hpc
    · go_enter Try.func40, Try.ntmps40
      go_wp2
      go_quiet ((go_at_call 78; exact Calls.quiet_of (HN.out hpc _)))
      by_cases hk : 0 < k
      · have hk0 : ((k : Int) == 0) = false := by simp; omega
        have hpk : (p : Int) + (k : Int) ≤ 1099511627776 := by have := hsm.out; omega
        go_wp2
        go_ret
        have hkn : ¬ k = 0 := by omega
        refine ⟨?_, (H.out.grown (gb_drewN _ nq _)).setP (p + k) (by omega), gb_same (gb_drewN _ nq _) (gb_setCell _ _ _)⟩
        exact congrArg (fun z => Ending.returned (Value.int .i64 z)) (unzz_walk' (Hu.out hkn))
      · have hk0 : k = 0 := by omega
        subst hk0
        go_wp2
        go_ret
        exact ⟨rfl, (H.out.grown (gb_drewN _ _ _)).setF true, gb_same (gb_drewN _ _ _) (gb_setCell _ _ _)⟩
    · have HN1 := Lib.hid (HN0.out hpc)
      subst hpc
      clear HN HN0
      go_enter Try.func40, Try.ntmps40
      go_wp2
      go_quiet ((go_at_call 78; exact Calls.quiet_of (HN1.out _)))
      by_cases hk : 0 < k
      · exfalso; omega
      · have hk0 : k = 0 := by omega
        subst hk0
        go_wp2
        go_ret
        exact ⟨rfl, (H.out.grown (gb_drewN _ _ _)).setF true, gb_same (gb_drewN _ _ _) (gb_setCell _ _ _)⟩
end Go.Proofs.Ytgfopepopcacmaa
