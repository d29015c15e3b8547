/-
  The reference's SameInts.
-/
import Derived.Test.YtjijiondinbmnaaWQ
import Derived.BigQuiet
namespace Go.Proofs.Ytjijiondinbmnaa
open Go.RowKit
set_option maxRecDepth 100000 in
set_option maxHeartbeats 1000000 in
theorem sameInts_true (a b : Value) (w : World) (zs : List Int) (ha : RdL w a (ivs zs)) (hb : RdL w b (ivs zs)) (hlz : (zs.length : Int) ≤ 9223372036854775807) :
    Calls Try.prog 16 #[a, b] w (BoolQ true w) := by
  obtain ⟨a0, c0, rfl⟩ := ha.len
  obtain ⟨a1, c1, rfl⟩ := hb.len
  have hivl : (ivs zs).length = zs.length := by simp [ivs]
  rw [hivl] at ha hb ⊢
  have HA := Lib.hid ha
  have HB := Lib.hid hb
  clear ha hb
  go_enter Try.func16, Try.ntmps16
  go_wp2
  go_loopw [5] (fun k wr => ∃ i nq : Nat, k = .int .i64 (i : Int) ∧ i ≤ zs.length ∧ wr = w.drewN nq) (fun k _ => zs.length - (intOf k).toNat)
  case atStart => exact ⟨0, 0, rfl, Nat.zero_le _, rfl⟩
  case round =>
    obtain ⟨i, nq, rfl, hi, rfl⟩ := hrel
    by_cases hlt : i < zs.length
    · obtain ⟨g, off, rfl, hcell⟩ := HA.out.at (j := i) (x := .int .i64 zs[i]) (by simp [ivs, hlt])
      obtain ⟨g', off', rfl, hcell'⟩ := HB.out.at (j := i) (x := .int .i64 zs[i]) (by simp [ivs, hlt])
      generalize zs[i] = z at *
      have hi0 : (0 : Int) ≤ (i : Int) := Int.natCast_nonneg _
      have hi1 : (i : Int) < (zs.length : Int) := by omega
      go_wp2
      go_quiet (fail)
      go_wp2
      refine ⟨⟨i + 1, _, by go_num, by omega, rfl⟩, by simp [intOf]; omega⟩
    · go_wp2
      go_ret
      exact ⟨rfl, gb_drewN _ _ _⟩
end Go.Proofs.Ytjijiondinbmnaa
