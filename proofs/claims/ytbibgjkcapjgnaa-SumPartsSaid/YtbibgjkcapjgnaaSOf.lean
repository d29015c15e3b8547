/-
  sum.Of, sum.Answer: the walks.
-/
import Derived.Test.YtbibgjkcapjgnaaSNum
namespace Go.Proofs.Ytbibgjkcapjgnaa
open Go.RowKit

theorem wrap_sg {n : Nat} (h : n < 18446744073709551616) : wrap64 (n : Int) = sg n := by
  have := sg_wrap h
  rw [IntKind.wrap_i64] at this
  unfold wrap64
  omega

set_option maxRecDepth 100000 in
theorem of_any (v : Value) (l : List UInt8) (w : World) (hv : Rd w v l) :
    Calls Try.prog 12 #[v] w fun e w' => e = .returned (.int .u64 ((ofL l : Nat) : Int)) ∧ w = w' := by
  have hs := hv.small
  have HF := Lib.hid (from_any 125762890854254 v l w (by omega) hv)
  have HN := Lib.hid (number_any (fromL 125762890854254 l) l.length w (fromL_lt (by omega) l))
  obtain ⟨a, c, rfl⟩ := hv.len
  clear hv
  go_enter Try.func12, Try.ntmps12
  go_wp2_with (first | (go_at_call 10; refine HF.out.mono ?_; rintro e w' ⟨rfl, rfl⟩) | (go_at_call 24; refine HN.out.mono ?_; rintro e w' ⟨rfl, rfl⟩))
  go_ret
  exact ⟨rfl, rfl⟩

set_option maxRecDepth 100000 in
theorem answer_any (d t a : Int) (v : Value) (l : List UInt8) (w : World) (hv : Rd w v l) :
    Calls Try.prog 14 #[.int .i64 d, .int .i64 t, .int .i64 a, v] w fun e w' => e = .returned (.int .i64 (answer d t a l)) ∧ w = w' := by
  have hs := hv.small
  have h1 : 125762890854254 < 18446744073709551616 := by omega
  have HN1 := Lib.hid (number_any 125762890854254 d w h1)
  have h2 := numL_lt h1 d
  have HN2 := Lib.hid (number_any _ t w h2)
  have h3 := numL_lt h2 t
  have HN3 := Lib.hid (number_any _ a w h3)
  have h4 := numL_lt h3 a
  have HN4 := Lib.hid (number_any _ l.length w h4)
  have h5 := numL_lt h4 l.length
  have HF := Lib.hid (from_any _ v l w h5 hv)
  have HE : Hid (wrap64 ((fromL (numL (numL (numL (numL 125762890854254 d) t) a) l.length) l : Nat) : Int) = answer d t a l) := Lib.hid (wrap_sg (fromL_lt h5 l))
  obtain ⟨ad, c, rfl⟩ := hv.len
  clear hv h1 h2 h3 h4 h5
  go_enter Try.func14, Try.ntmps14
  go_wp2_with fail
  refine HN1.out.mono ?_; rintro e w' ⟨rfl, rfl⟩
  go_wp2_with fail
  refine HN2.out.mono ?_; rintro e w' ⟨rfl, rfl⟩
  go_wp2_with fail
  refine HN3.out.mono ?_; rintro e w' ⟨rfl, rfl⟩
  go_wp2_with fail
  refine HN4.out.mono ?_; rintro e w' ⟨rfl, rfl⟩
  go_wp2_with fail
  refine HF.out.mono ?_; rintro e w' ⟨rfl, rfl⟩
  go_wp2
  go_ret
  exact ⟨congrArg (fun n => Ending.returned (.int .i64 n)) HE.out, rfl⟩
end Go.Proofs.Ytbibgjkcapjgnaa
