/-
  law.SumParts: the walk.
-/
import Derived.Test.YtbibgjkcapjgnaaSAwake
namespace Go.Proofs.Ytbibgjkcapjgnaa
open Go.RowKit

set_option maxRecDepth 100000 in
set_option maxHeartbeats 4000000 in
theorem sumParts_any (h : Nat) (va vb : Value) (a b : List UInt8) (w : World) (hh : h < 18446744073709551616) (ha : Rd w va a) (hb : Rd w vb b) :
    Calls Try.prog 5 #[.int .u64 (h : Int), va, vb] w (BoolQ true w) := by
  have hs1 := ha.small
  have hs2 := hb.small
  obtain ⟨aa, ca, rfl⟩ := ha.len
  obtain ⟨ab, cb, rfl⟩ := hb.len
  have HA := Lib.hid ha
  have HB := Lib.hid hb
  have HH := Lib.hid hh
  clear ha hb hh
  by_cases h600 : 600 < a.length
  · go_enter Try.func5, Try.ntmps5
    go_wp2_with (go_at_call 9; refine (awake_any _).mono ?_; rintro e w1 ⟨rfl, hg1⟩)
    go_ret
    exact ⟨rfl, hg1⟩
  by_cases k600 : 600 < b.length
  · go_enter Try.func5, Try.ntmps5
    go_wp2_with (go_at_call 9; refine (awake_any _).mono ?_; rintro e w1 ⟨rfl, hg1⟩)
    go_ret
    exact ⟨rfl, hg1⟩
  have HP := Lib.hid (fromL_append h a b)
  go_enter Try.func5, Try.ntmps5
  go_wp2_with fail
  refine (awake_any _).mono ?_; rintro e w1 ⟨rfl, hg1⟩
  have HG1 := Lib.hid hg1
  clear hg1
  have g0 := fun o => gb_same HG1.out (gb_alloc w1 o none)
  have hown := Own.lit w1 #[] [] 0 w.heap.size rfl rfl HG1.out.size (Nat.zero_le _)
  go_wp2_with (first | (at_builtin; refine app_bytes rfl (.tmp 18) (.tmp 19) rfl w.heap.size _ _ [] a rfl rfl hown (HA.out.grown (g0 _)) (g0 _).size (by simp; omega) ?_; intro v2 w2 ho2 hg2 hf2; have HO2 := Lib.hid ho2; have HG2 : Hid (w.grownBy w2 none) := Lib.hid (gb_trans (g0 _) hg2 (fun k hk => .inr (by have := (hown.lt k hk).1; omega))); clear ho2 hg2 hf2) | (at_builtin; refine app_bytes rfl (.tmp 20) (.tmp 21) rfl w.heap.size _ _ ([] ++ a) b rfl rfl HO2.out (HB.out.grown HG2.out) HG2.out.size (by simp; omega) ?_; intro v3 w3 ho3 hg3 hf3; have HO3 := Lib.hid ho3; have HG3 : Hid (w.grownBy w3 none) := Lib.hid (gb_trans HG2.out hg3 (fun k hk => .inr (by have := (HO2.out.lt k hk).1; omega))); clear ho3 hg3 hf3) | (go_at_call 9; fail))
  have hf := from_any h v3 (a ++ b) w3 HH.out HO3.out.rd
  rw [HP.out] at hf
  have HF := Lib.hid hf
  clear hf
  refine HF.out.mono ?_; rintro e w4 ⟨rfl, rfl⟩
  go_wp2_with fail
  refine (from_any _ _ _ _ HH.out (HA.out.grown HG3.out)).mono ?_; rintro e w5 ⟨rfl, rfl⟩
  go_wp2_with fail
  refine (from_any _ _ _ _ (fromL_lt HH.out a) (HB.out.grown HG3.out)).mono ?_; rintro e w6 ⟨rfl, rfl⟩
  go_wp2
  go_ret
  exact ⟨rfl, HG3.out⟩
end Go.Proofs.Ytbibgjkcapjgnaa
