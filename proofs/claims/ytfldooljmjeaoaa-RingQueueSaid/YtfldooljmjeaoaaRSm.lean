/-
  The reference's SameMsg on equal messages: the walk.
-/
import Derived.Test.YtfldooljmjeaoaaRSh
namespace Go.Proofs.Ytfldooljmjeaoaa
open Go.RowKit

theorem info3 : (Try.prog.info? 3).map (fun i => (i.zero, i.size, i.bytes)) = some (some (.int .i64 0), 1, 8) := by kernel_rfl
theorem cells3 : Try.prog.cellsOf 3 = 1 := by kernel_rfl
theorem part_int (cs : Array Value) (j : Nat) (a : Int) (w : World) (h : cs[j]? = some (.int .i64 a)) : (part 3 cs j).run Try.prog w = .ok (.int .i64 a) w := by
  simp [part, isAgg, run_underlying Try.underlying3, h]
theorem arr_eq_aux (d : Nat) (cs : Array Value) (w : World) : ∀ (is : List Nat), (∀ i ∈ is, ∃ a, cs[i]? = some (.int .i64 a)) → (Op.eqItems (d + 1) 3 1 cs cs is).run Try.prog w = .ok true w := by
  intro is
  induction is with
  | nil => intro _; simp [Op.eqItems]
  | cons i is ih =>
    intro h
    obtain ⟨a, ha⟩ := h i (by simp)
    have hp := part_int cs i a w ha
    have he := run_equalIn_int (P := Try.prog) w d 3 .i64 .i64 a a Try.underlying3
    simp only [Op.eqItems, Nat.mul_one, Sem.run_bind, hp, he, Result.andThen_ok, beq_self_eq_true, Bool.not_true, Bool.false_eq_true, if_false]
    exact ih (fun j hj => h j (by simp [hj]))
theorem arr4_aux (k : Nat) (a b c d : Int) (w : World) : (Op.equalIn (k + 2) 37 (.agg #[.int .i64 a, .int .i64 b, .int .i64 c, .int .i64 d]) (.agg #[.int .i64 a, .int .i64 b, .int .i64 c, .int .i64 d])).run Try.prog w = .ok true w := by
  obtain ⟨i0, hi, _⟩ := info_parts info3
  rw [run_equalIn_array w (k + 1) _ _ Try.underlying37 hi, cells3]
  exact arr_eq_aux k _ w _ (by intro i hi; simp at hi; rcases (show i = 0 ∨ i = 1 ∨ i = 2 ∨ i = 3 by omega) with rfl | rfl | rfl | rfl <;> exact ⟨_, rfl⟩)
theorem arr4_eq (a b c d : Int) (w : World) : (Op.equalIn 10000 37 (.agg #[.int .i64 a, .int .i64 b, .int .i64 c, .int .i64 d]) (.agg #[.int .i64 a, .int .i64 b, .int .i64 c, .int .i64 d])).run Try.prog w = .ok true w := arr4_aux 9998 a b c d w
set_option maxRecDepth 100000 in
set_option maxHeartbeats 400000 in
theorem sameM_any (m : Mg) (va vb : Value) (w : World) (ha : RdW w va m.z) (hb : RdW w vb m.z) :
    Calls Try.prog 14 #[.agg (m.row va), .agg (m.row vb)] w fun e w' => e = .returned (.bool true) ∧ w.grownBy w' none := by
  have HC := Lib.hid (fun W (hg : w.grownBy W none) => same_gW va vb W m.z (ha.grown hg) (hb.grown hg))
  have h4 := arr4_eq m.a m.b m.c m.e
  unfold Mg.row
  clear ha hb
  go_enter Try.func14, Try.ntmps14
  go_wp2_with (go_at_call 20; refine (HC.out _ (gb_of_below (by go_grown))).mono ?_; rintro e w1 ⟨rfl, hg1⟩)
  go_ret
  exact ⟨rfl, gb_trans0 (gb_of_below (by go_grown)) hg1⟩
end Go.Proofs.Ytfldooljmjeaoaa
