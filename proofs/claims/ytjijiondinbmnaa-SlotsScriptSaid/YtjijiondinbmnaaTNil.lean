/-
  The methods on a nil table; law.awake; law.SlotsNil: the walks.
-/
import Derived.Test.YtjijiondinbmnaaTHan
namespace Go.Proofs.Ytjijiondinbmnaa
open Go.RowKit

def RetS (v : Value) (w : World) (e : Ending) (w' : World) : Prop := e = .returned v ∧ w = w'
theorem put_nil (w : World) (v : Int) : Calls Try.prog 22 #[.pointer none, .int .i64 v] w (RetS (.tuple #[.int .i64 0, .int .i64 7]) w) := by
  go_enter Try.func22, Try.ntmps22
  go_wp2
  go_ret2
  exact ⟨rfl, rfl⟩
theorem find_nil (w : World) (x : Int) : Calls Try.prog 49 #[.pointer none, .int .i64 x] w (RetS (.pointer none) w) := by
  go_enter Try.func49, Try.ntmps49
  go_wp2
  go_ret
  exact ⟨rfl, rfl⟩
theorem get_nil (w : World) (x : Int) : Calls Try.prog 25 #[.pointer none, .int .i64 x] w (RetS (.tuple #[.int .i64 0, .bool false]) w) := by
  have HF := Lib.hid (find_nil w x)
  go_enter Try.func25, Try.ntmps25
  go_wp2_with fail
  refine HF.out.mono ?_
  rintro e w' ⟨rfl, rfl⟩
  go_wp2
  go_ret2
  exact ⟨rfl, rfl⟩
theorem change_nil (w : World) (x : Int) (f : Value) : Calls Try.prog 46 #[.pointer none, .int .i64 x, f] w (RetS (.int .i64 7) w) := by
  go_enter Try.func46, Try.ntmps46
  go_wp2
  go_ret
  exact ⟨rfl, rfl⟩
theorem set_nil (w : World) (x v : Int) : Calls Try.prog 23 #[.pointer none, .int .i64 x, .int .i64 v] w (NumG 7 w) := by
  have hmf : ∀ (fn : Fn) (first cap : Array Value) (w : World), (Instr.makeFunc fn first cap).run Try.prog w = .ok (.func fn first cap) w := fun _ _ _ _ => rfl
  go_enter Try.func23, Try.ntmps23
  go_wp2_with fail
  refine (change_nil _ _ _).mono ?_
  rintro e w' ⟨rfl, rfl⟩
  go_wp2
  go_ret
  exact ⟨rfl, gb_alloc _ _ _⟩
theorem drop_nil (w : World) (x : Int) : Calls Try.prog 24 #[.pointer none, .int .i64 x] w (RetS (.int .i64 7) w) := by
  go_enter Try.func24, Try.ntmps24
  go_wp2_with fail
  refine (change_nil _ _ _).mono ?_
  rintro e w' ⟨rfl, rfl⟩
  go_wp2
  go_ret
  exact ⟨rfl, rfl⟩
theorem handles_nil (w : World) : Calls Try.prog 17 #[.pointer none] w (RetS (.slice none 0 0) w) := by
  go_enter Try.func17, Try.ntmps17
  go_wp2
  go_ret
  exact ⟨rfl, rfl⟩
theorem encode_nil (w : World) : Calls Try.prog 20 #[.pointer none] w (RetS (.slice none 0 0) w) := by
  go_enter Try.func20, Try.ntmps20
  go_wp2
  go_ret
  exact ⟨rfl, rfl⟩

theorem aw_facts : newS 2 = [(0, false, 0), (0, false, 0)] ∧
    putL [(0, false, 0), (0, false, 0)] 7 = [(0, true, 7), (0, false, 0)] ∧ putH [(0, false, 0), (0, false, 0)] = 0 ∧ putE [(0, false, 0), (0, false, 0)] = 0 ∧
    putL [(0, true, 7), (0, false, 0)] 8 = [(0, true, 7), (0, true, 8)] ∧ putH [(0, true, 7), (0, false, 0)] = 1 ∧ putE [(0, true, 7), (0, false, 0)] = 0 ∧
    dropL [(0, true, 7), (0, true, 8)] 0 = [(1, false, 0), (0, true, 8)] ∧ errF [(0, true, 7), (0, true, 8)] 0 = 0 ∧
    putL [(1, false, 0), (0, true, 8)] 9 = [(1, true, 9), (0, true, 8)] ∧ putH [(1, false, 0), (0, true, 8)] = 2 ∧ putE [(1, false, 0), (0, true, 8)] = 0 ∧
    putL [(1, true, 9), (0, true, 8)] 10 = [(1, true, 9), (0, true, 8)] ∧ putH [(1, true, 9), (0, true, 8)] = 0 ∧ putE [(1, true, 9), (0, true, 8)] = 13 ∧
    getN [(1, true, 9), (0, true, 8)] 2 = 9 ∧ getB [(1, true, 9), (0, true, 8)] 2 = true := by decide +kernel
set_option maxRecDepth 100000 in
set_option maxHeartbeats 2000000 in
theorem awake_any (w : World) : Calls Try.prog 10 #[] w (BoolQ true w) := by
  obtain ⟨a0, a1, a2, a3, b1, b2, b3, d1, d2, c1, c2, c3, p1, p2, p3, g1, g2⟩ := aw_facts
  have ok : ∀ n : Int, 0 ≤ n → n ≤ 10 → OkI n := fun n h1 h2 => ⟨by omega, by omega⟩
  have HN := Lib.hid (new_any 2 w (by omega) (by omega))
  go_enter Try.func10, Try.ntmps10
  go_wp2_with fail
  refine HN.out.mono ?_
  rintro e w1 ⟨g, s, rfl, hg, hs, hg1, ht1⟩
  rw [a0] at ht1
  have HP1 := Lib.hid (put_any ht1 7 (ok 7 (by omega) (by omega)))
  have HG1 := Lib.hid hg1
  have HS := Lib.hid hs
  clear ht1 hg1 hs hg a0
  unfold PutP at HP1
  rw [a1, a2, a3] at HP1
  go_wp2_with fail
  refine HP1.out.mono ?_
  rintro e w2 ⟨rfl, hg2, ht2⟩
  have HP2 := Lib.hid (put_any ht2 8 (ok 8 (by omega) (by omega)))
  have HG2 := Lib.hid (gb_new HG1.out hg2 HS.out)
  clear ht2 hg2 a1 a2 a3
  unfold PutP at HP2
  rw [b1, b2, b3] at HP2
  go_wp2_with fail
  refine HP2.out.mono ?_
  rintro e w3 ⟨rfl, hg3, ht3⟩
  have HP3 := Lib.hid (drop_any ht3 0 (ok 0 (by omega) (by omega)))
  have HG3 := Lib.hid (gb_new HG2.out hg3 HS.out)
  clear ht3 hg3 b1 b2 b3
  rw [d1, d2] at HP3
  go_wp2_with fail
  refine HP3.out.mono ?_
  rintro e w4 ⟨rfl, hg4, ht4⟩
  have HP4 := Lib.hid (put_any ht4 9 (ok 9 (by omega) (by omega)))
  have HG4 := Lib.hid (gb_new HG3.out hg4 HS.out)
  clear ht4 hg4 d1 d2
  unfold PutP at HP4
  rw [c1, c2, c3] at HP4
  go_wp2_with fail
  refine HP4.out.mono ?_
  rintro e w5 ⟨rfl, hg5, ht5⟩
  have HP5 := Lib.hid (put_any ht5 10 (ok 10 (by omega) (by omega)))
  have HG5 := Lib.hid (gb_new HG4.out hg5 HS.out)
  clear ht5 hg5 c1 c2 c3
  unfold PutP at HP5
  rw [p1, p2, p3] at HP5
  go_wp2_with fail
  refine HP5.out.mono ?_
  rintro e w6 ⟨rfl, hg6, ht6⟩
  have HP6 := Lib.hid (get_any ht6 2 (ok 2 (by omega) (by omega)))
  have HG6 := Lib.hid (gb_new HG5.out hg6 HS.out)
  clear ht6 hg6 p1 p2 p3
  rw [g1, g2] at HP6
  go_wp2_with fail
  refine HP6.out.mono ?_
  rintro e w7 ⟨rfl, hg7⟩
  have HG7 := Lib.hid (gb_same HG6.out hg7)
  clear hg7 g1 g2
  go_wp2
  go_ret
  exact ⟨rfl, HG7.out⟩
set_option maxRecDepth 100000 in
set_option maxHeartbeats 2000000 in
theorem slotsNil_any (x v : Int) (w : World) : Calls Try.prog 7 #[.int .i64 x, .int .i64 v] w (BoolQ true w) := by
  have HA := Lib.hid (awake_any w)
  have HPN := Lib.hid put_nil
  have HGN := Lib.hid get_nil
  have HSN := Lib.hid set_nil
  have HDN := Lib.hid drop_nil
  have HHN := Lib.hid handles_nil
  have HEN := Lib.hid encode_nil
  go_enter Try.func7, Try.ntmps7
  go_wp2_with fail
  refine HA.out.mono ?_
  rintro e w1 ⟨rfl, hg1⟩
  have HG1 := Lib.hid hg1
  clear hg1
  go_wp2_with (first | (go_at_call 22; (with_reducible refine (HPN.out _ _).mono ?_); rintro e w' ⟨rfl, rfl⟩) | (go_at_call 25; (with_reducible refine (HGN.out _ _).mono ?_); rintro e w' ⟨rfl, rfl⟩))
  refine (HSN.out _ _ _).mono ?_
  rintro e w2 ⟨rfl, hg2⟩
  have HG2 := Lib.hid (gb_same HG1.out hg2)
  clear hg2
  go_wp2_with (first | (go_at_call 24; (with_reducible refine (HDN.out _ _).mono ?_); rintro e w' ⟨rfl, rfl⟩) | (go_at_call 17; (with_reducible refine (HHN.out _).mono ?_); rintro e w' ⟨rfl, rfl⟩) | (go_at_call 20; (with_reducible refine (HEN.out _).mono ?_); rintro e w' ⟨rfl, rfl⟩))
  go_ret
  exact ⟨rfl, HG2.out⟩
end Go.Proofs.Ytjijiondinbmnaa
