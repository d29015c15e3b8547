/-
  law.SlotsAgain: the walk, where the law asks nothing.
-/
import Derived.Test.YtjijiondinbmnaaTArg
namespace Go.Proofs.Ytjijiondinbmnaa
open Go.RowKit

set_option maxRecDepth 100000 in
set_option maxHeartbeats 4000000 in
theorem slotsAgain_small (lv mv : Value) (ps qs : List ST) (n : Int) (w : World) (hl : RdT w lv ps) (hm : RdT w mv qs) (hn : OkI n) (hbad : n < 1 ∨ (20 : Int) < n ∨ (40 : Int) < ps.length ∨ (40 : Int) < qs.length) : Calls Try.prog 9 #[lv, mv, .int .i64 n] w (BoolQ true w) := by
  have hsm := hl.small
  have hsm2 := hm.small
  have HA := Lib.hid (awake_any w)
  obtain ⟨al, cl, rfl⟩ := hl.len
  obtain ⟨am, cm, rfl⟩ := hm.len
  have HBD := Lib.hid hbad
  clear hl hm hbad
  go_enter Try.func9, Try.ntmps9
  go_wp2_with fail
  refine HA.out.mono ?_
  rintro e w1 ⟨rfl, hg1⟩
  have HG1 := Lib.hid hg1
  clear hg1
  by_cases hn1 : n < 1
  · have hn2 : ¬ (20 : Int) < n := by omega
    by_cases ha : (40 : Int) < ps.length
    · go_wp2_with fail
      refine (new_no n w1 (.inl hn1)).mono ?_
      rintro e w2 ⟨rfl, rfl⟩
      go_wp2
      go_ret
      exact ⟨rfl, HG1.out⟩
    by_cases hb : (40 : Int) < qs.length
    · go_wp2_with fail
      refine (new_no n w1 (.inl hn1)).mono ?_
      rintro e w2 ⟨rfl, rfl⟩
      go_wp2
      go_ret
      exact ⟨rfl, HG1.out⟩
    go_wp2_with fail
    refine (new_no n w1 (.inl hn1)).mono ?_
    rintro e w2 ⟨rfl, rfl⟩
    go_wp2
    go_ret
    exact ⟨rfl, HG1.out⟩
  by_cases hn3 : 200 < n
  · have hn2 : (20 : Int) < n := by omega
    by_cases ha : (40 : Int) < ps.length
    · go_wp2_with fail
      refine (new_no n w1 (.inr hn3)).mono ?_
      rintro e w2 ⟨rfl, rfl⟩
      go_wp2
      go_ret
      exact ⟨rfl, HG1.out⟩
    by_cases hb : (40 : Int) < qs.length
    · go_wp2_with fail
      refine (new_no n w1 (.inr hn3)).mono ?_
      rintro e w2 ⟨rfl, rfl⟩
      go_wp2
      go_ret
      exact ⟨rfl, HG1.out⟩
    go_wp2_with fail
    refine (new_no n w1 (.inr hn3)).mono ?_
    rintro e w2 ⟨rfl, rfl⟩
    go_wp2
    go_ret
    exact ⟨rfl, HG1.out⟩
  obtain ⟨N, rfl⟩ : ∃ N : Nat, n = (N : Int) := ⟨n.toNat, by omega⟩
  have HN := Lib.hid (new_any N w1 (by omega) (by omega))
  by_cases ha : (40 : Int) < ps.length
  · go_wp2_with fail
    refine HN.out.mono ?_
    rintro e w2 ⟨g, s, rfl, hg, hs, hg2, ht2⟩
    have HG2 := Lib.hid (gb_same HG1.out hg2)
    clear hg2 ht2
    go_wp2
    go_ret
    exact ⟨rfl, HG2.out⟩
  by_cases hb : (40 : Int) < qs.length
  · go_wp2_with fail
    refine HN.out.mono ?_
    rintro e w2 ⟨g, s, rfl, hg, hs, hg2, ht2⟩
    have HG2 := Lib.hid (gb_same HG1.out hg2)
    clear hg2 ht2
    go_wp2
    go_ret
    exact ⟨rfl, HG2.out⟩
  have hc : (20 : Int) < (N : Int) := by have := HBD.out; omega
  go_wp2_with fail
  refine HN.out.mono ?_
  rintro e w2 ⟨g, s, rfl, hg, hs, hg2, ht2⟩
  have HG2 := Lib.hid (gb_same HG1.out hg2)
  clear hg2 ht2
  go_wp2
  go_ret
  exact ⟨rfl, HG2.out⟩
end Go.Proofs.Ytjijiondinbmnaa
