/-
  SameRuns of the reference; law.from.
-/
import Derived.Test.YtpfeaeklenopdaaERow
import Derived.Laws.StructEq
namespace Go.Proofs.Ytpfeaeklenopdaa
open Go.RowKit

theorem neq_run (w : World) (f n : Int) : (binOp .neq 50 (.agg #[.int .i64 f, .int .i64 n]) (.agg #[.int .i64 f, .int .i64 n])).run Try.prog w = .ok (.bool false) w := by
  have h1 : Try.prog.underlying 50 = some (.struct (Try.prog.fieldsOf 50)) := by kernel_rfl
  have h2 : Try.prog.stoodInHeld 50 = false := by kernel_rfl
  have h3 := Try.underlying3
  have h4 : ∃ a b, (Try.prog.fieldsOf 50).toList = [a, b] ∧ a.name = "From" ∧ b.name = "Len" ∧ a.type = 3 ∧ b.type = 3 ∧ a.offset = 0 ∧ b.offset = 1 := ⟨_, _, rfl, by kernel_rfl, by kernel_rfl, by kernel_rfl, by kernel_rfl, by kernel_rfl, by kernel_rfl⟩
  obtain ⟨a, b, h5, a1, b1, a2, b2, a3, b3⟩ := h4
  rw [run_neq_struct, show (10000 : Nat) = 9999 + 1 from rfl, run_equalIn_struct w 9999 _ _ _ h1 h2, h5]
  have p0 : ∀ w, (part 3 #[.int .i64 f, .int .i64 n] 0).run Try.prog w = .ok (.int .i64 f) w := fun w => by go_simp
  have p1 : ∀ w, (part 3 #[.int .i64 f, .int .i64 n] 1).run Try.prog w = .ok (.int .i64 n) w := fun w => by go_simp
  have e : ∀ (w : World) (z : Int), (Op.equalIn 9999 3 (.int .i64 z) (.int .i64 z)).run Try.prog w = .ok true w := fun w z => by
    rw [show (9999 : Nat) = 9998 + 1 from rfl, run_equalIn_int w 9998 _ _ _ z z h3]
    simp
  simp [Op.eqFields, a1, b1, a2, b2, a3, b3, p0, p1, e]
set_option maxRecDepth 100000 in
set_option maxHeartbeats 1000000 in
theorem sameRuns_true (a b : Value) (w : World) (rs : List ST) (ha : RdT w a rs) (hb : RdT w b rs) :
    Calls Try.prog 33 #[a, b] w (BoolQ true w) := by
  have hlz := ha.small
  obtain ⟨a0, c0, rfl⟩ := ha.len
  obtain ⟨a1, c1, rfl⟩ := hb.len
  have HA := Lib.hid ha
  have HB := Lib.hid hb
  have q50 := neq_run
  clear ha hb
  go_enter Try.func33, Try.ntmps33
  go_wp2
  go_loopw [5] (fun k wr => ∃ i nq : Nat, k = .int .i64 (i : Int) ∧ i ≤ rs.length ∧ wr = w.drewN nq) (fun k _ => rs.length - (intOf k).toNat)
  case atStart => exact ⟨0, 0, rfl, Nat.zero_le _, rfl⟩
  case round =>
    obtain ⟨i, nq, rfl, hi, rfl⟩ := hrel
    by_cases hlt : i < rs.length
    · obtain ⟨p, hp⟩ : ∃ p, rs[i]? = some p := ⟨rs[i], by simp [hlt]⟩
      obtain ⟨g, off, rfl, h1, h2⟩ := HA.out.at hp
      obtain ⟨g', off', rfl, h1', h2'⟩ := HB.out.at hp
      obtain ⟨f, n⟩ := p
      simp only at h1 h2 h1' h2'
      have hi0 : (0 : Int) ≤ (i : Int) := Int.natCast_nonneg _
      have hi1 : (i : Int) < (rs.length : Int) := by omega
      clear hp
      go_wp2
      go_quiet (fail)
      go_wp2
      refine ⟨⟨i + 1, _, by go_num, by omega, rfl⟩, by simp [intOf]; omega⟩
    · go_wp2
      go_ret
      exact ⟨rfl, gb_drewN _ _ _⟩
set_option maxRecDepth 100000 in
set_option maxHeartbeats 1000000 in
theorem from_any (rv : Value) (rs : List ST) (w : World) (hr : RdT w rv rs) (hrl : rs.length ≤ 5000) :
    Calls Try.prog 34 #[rv] w fun e w' => ∃ v', e = .returned v' ∧ OwnR 50 w' w.heap.size v' rs ∧ w.grownBy w' none := by
  obtain ⟨ar, cr, rfl⟩ := hr.len
  have HR := Lib.hid hr
  have hrI : (rs.length : Int) ≤ 5000 := by omega
  clear hr
  go_enter Try.func34, Try.ntmps34
  go_wp2
  go_loopw [3, 7] (fun ov u wr => ∃ i : Nat, i ≤ rs.length ∧ u = .int .i64 (i : Int) ∧ Hid (OwnR 50 wr w.heap.size ov (rs.take i)) ∧ Hid (w.grownBy wr none)) (fun _ u _ => rs.length - (intOf u).toNat)
  case atStart => exact ⟨0, Nat.zero_le _, rfl, Lib.hid (OwnR.nil _ _ _), Lib.hid (gb_refl _ _)⟩
  case round =>
    obtain ⟨i, hi, rfl, HO, HG⟩ := hrel
    by_cases hlt : i < rs.length
    · obtain ⟨p, hp⟩ : ∃ p, rs[i]? = some p := ⟨rs[i], by simp [hlt]⟩
      obtain ⟨b, off, rfl, q0, q1⟩ := (HR.out.grown HG.out).at hp
      have hiI : (i : Int) < (rs.length : Int) := by omega
      have HTK : Hid (rs.take i ++ [p] = rs.take (i + 1)) := Lib.hid (by rw [List.take_add_one, hp]; rfl)
      have HLN : Hid ((rs.take i).length ≤ 1000000) := Lib.hid (by rw [List.length_take]; omega)
      obtain ⟨f, n⟩ := p
      simp only at q0 q1
      clear hp
      go_wp2_with (at_builtin; refine app_runR Try.underlying46 info_rr rfl _ _ rfl w.heap.size _ (rs.take i) (f, n) wr.heap.size _ rfl rfl (HO.out.grown (gb_alloc _ _ none)) (heap_at_alloc wr _) (Nat.le_trans HG.out.size (by simp)) HLN.out ?_; go_must (intro v5 w5 ho5 hg5 hf5; rw [HTK.out] at ho5; have HO5 := Lib.hid ho5; have HG5 : Hid (w.grownBy w5 none) := Lib.hid (gb_trans (gb_same HG.out (gb_alloc wr _ none)) hg5 (fun j hj => .inr (HO.out.lt j hj).1)); clear ho5 hg5 hf5))
      go_roundw
      case rel => exact ⟨i + 1, by omega, by go_num, HO5, HG5⟩
      case measure => simp [intOf]; omega
    · obtain rfl : i = rs.length := by omega
      rw [List.take_length] at HO
      go_wp2
      go_ret
      exact ⟨_, rfl, HO.out, HG.out⟩
end Go.Proofs.Ytpfeaeklenopdaa
