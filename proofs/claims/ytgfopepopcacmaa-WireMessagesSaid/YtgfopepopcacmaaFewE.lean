/-
  FewEffects: the walk.
-/
import Derived.Test.YtgfopepopcacmaaEffE
namespace Go.Proofs.Ytgfopepopcacmaa
open Go.RowKit

def dataN (ps : List EffP) : Nat := (ps.map fun p => p.1.2.1.2.length + p.1.2.2.length).sum
theorem dataN_take {ps : List EffP} (hr : ∀ p ∈ ps, p.1.2.1.2.length ≤ reachBytes ∧ p.1.2.2.length ≤ reachBytes) : ∀ i, dataN (ps.take i) ≤ i * 281474976702464 := by
  intro i
  induction i with
  | zero =>
    have h0 : dataN (ps.take 0) = 0 := rfl
    omega
  | succ i ih =>
    unfold dataN at *
    rw [List.take_add_one]
    cases hp : ps[i]? with
    | none => rw [Option.toList_none, List.append_nil]; exact Nat.le_trans ih (Nat.mul_le_mul_right _ (Nat.le_succ i))
    | some p =>
      have h := hr p (List.mem_of_getElem? hp)
      unfold reachBytes at h
      rw [Option.toList_some, List.map_append, List.sum_append, List.map_cons, List.map_nil, List.sum_cons, List.sum_nil]
      omega
theorem RdEs.max {w : World} {v : Value} {ps : List EffP} (h : RdEs w v ps) : ps.length ≤ 9223372036854775807 := by
  rcases h.1 with ⟨_, rfl⟩ | ⟨b, off, cap, _, h1, h2, _⟩
  · simp
  · unfold maxLen at h2; omega

def FewPost (w : World) (ps : List EffP) (e : Ending) (w' : World) : Prop :=
  ∃ r : Bool, e = .returned (.bool r) ∧ w.grownBy w' none ∧ (r = true → ps.length ≤ 170 ∧ dataN ps ≤ 20000)
set_option maxRecDepth 100000 in
set_option maxHeartbeats 4000000 in
theorem fewE_any (lv : Value) (ps : List EffP) (w : World) (hl : RdEs w lv ps) (hr : ∀ p ∈ ps, p.1.2.1.2.length ≤ reachBytes ∧ p.1.2.2.length ≤ reachBytes) :
    Calls Try.prog 39 #[lv] w (FewPost w ps) := by
  obtain ⟨a0, c0, rfl⟩ := hl.len
  have HL := Lib.hid hl
  have hmx := hl.max
  have HT := Lib.hid (dataN_take hr)
  clear hl
  go_enter Try.func39, Try.ntmps39
  go_wp2
  go_loopw [3, 4] (fun u k wr => ∃ (i : Nat) (z : Int), k = .int .i64 (i : Int) ∧ u = .int .i64 z ∧ i ≤ ps.length ∧ w.grownBy wr none ∧ (i ≤ 170 → z = (dataN (ps.take i) : Int))) (fun _ k _ => ps.length - (intOf k).toNat)
  case atStart => exact ⟨0, 0, rfl, rfl, Nat.zero_le _, gb_refl _ _, fun _ => rfl⟩
  case round =>
    obtain ⟨i, z, rfl, rfl, hi, hg, hz⟩ := hrel
    have HG := Lib.hid hg
    have HZ := Lib.hid hz
    clear hg hz
    by_cases hlt : i < ps.length
    · obtain ⟨p, hp⟩ : ∃ p, ps[i]? = some p := ⟨ps[i], by simp⟩
      obtain ⟨gb, off, rfl, hrange⟩ := HL.out.at hp
      obtain ⟨⟨hx5, hx8, _, _⟩, _, _, hrm, hrd⟩ := HL.out.2 p (List.mem_of_getElem? hp)
      have hnx : dataN (ps.take (i + 1)) = dataN (ps.take i) + (p.1.2.1.2.length + p.1.2.2.length) := by
        unfold dataN
        rw [List.take_add_one, hp]
        simp
      have hm := hr p (List.mem_of_getElem? hp)
      obtain ⟨⟨xz, ⟨xm, xl⟩, xd⟩, mv, dv⟩ := p
      simp only at hx5 hx8 hrm hrd hrange hnx hm
      match xz, hx5, xm, hx8 with
      | [k, a, b, c, d], _, [m0, m1, m2, m3, m4, m5, m6, m7], _ =>
      obtain ⟨am, cm, rfl⟩ := hrm.len
      obtain ⟨ad, cd, rfl⟩ := hrd.len
      have c13 : wr.cell? ⟨gb, off + i * 15 + 13, none⟩ = some (.slice am xl.length cm) := HG.out.cell (hrange 13 _ rfl) (by simp)
      have c14 : wr.cell? ⟨gb, off + i * 15 + 14, none⟩ = some (.slice ad xd.length cd) := HG.out.cell (hrange 14 _ rfl) (by simp)
      have HNX := Lib.hid hnx
      unfold reachBytes at hm
      clear hrange hrm hrd hnx hp
      go_wp2
      go_quiet (fail)
      go_wp2
      refine ⟨⟨i + 1, _, by go_num, rfl, by omega, gb_same HG.out (gb_drewN _ _ _), fun h17 => ?_⟩, by simp [intOf]; omega⟩
      have hz := HZ.out (by omega)
      have ht := HT.out i
      rw [HNX.out, hz]
      have : i * 281474976702464 ≤ 170 * 281474976702464 := Nat.mul_le_mul_right _ (by omega)
      unfold wrap64
      omega
    · obtain rfl : i = ps.length := by omega
      rw [List.take_length] at HZ
      go_wp2
      all_goals go_ret
      all_goals first
        | exact ⟨_, rfl, HG.out, fun h => by cases h⟩
        | (refine ⟨_, rfl, HG.out, fun h => ?_⟩
           have hz := HZ.out (by omega)
           have h1 := of_decide_eq_true h
           omega)
end Go.Proofs.Ytgfopepopcacmaa
