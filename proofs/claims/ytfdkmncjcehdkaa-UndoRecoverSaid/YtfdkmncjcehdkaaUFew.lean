/-
  The reference's Few: the walk.
-/
import Derived.Test.YtfdkmncjcehdkaaUTo
import Derived.Test.YtfdkmncjcehdkaaUArg
namespace Go.Proofs.Ytfdkmncjcehdkaa
open Go.RowKit

def fewR (r : RT) : Bool := decide (r.2.2.length ≤ 400 ∧ r.2.1 ≤ 2000)
def fewB (rs : List RT) : Bool := rs.all fewR && decide (rs.length ≤ 30)
def BoolS (t : Bool) (w : World) (e : Ending) (w' : World) : Prop := e = .returned (.bool t) ∧ w = w'
set_option maxRecDepth 100000 in
set_option maxHeartbeats 2000000 in
theorem few_any (lv : Value) (ps : List RP) (w : World) (hl : RdRs w lv ps) :
    Calls Try.prog 23 #[lv] w (BoolS (fewB (ps.map (·.1))) w) := by
  have hsm := hl.1.small
  obtain ⟨al, cl, rfl⟩ := hl.1.len
  have HL := Lib.hid hl
  clear hl
  go_enter Try.func23, Try.ntmps23
  go_wp2_with fail
  go_loop [3] (fun i => ∃ k : Nat, k ≤ ps.length ∧ i = .int .i64 k ∧ Hid (∀ p ∈ ps.take k, fewR p.1 = true)) (fun i => ps.length - (intOf i).toNat)
  case atStart => exact ⟨0, Nat.zero_le _, rfl, Lib.hid (by simp)⟩
  case round =>
    obtain ⟨k, hk, rfl, HOK⟩ := hrel
    by_cases hlt : k < ps.length
    · obtain ⟨p, hp⟩ : ∃ p, ps[k]? = some p := ⟨ps[k], by simp [hlt]⟩
      have hpm := List.mem_of_getElem? hp
      obtain ⟨gb, off, rfl, q0, q1, q2⟩ := HL.out.1.at hp
      have hrd := HL.out.2 p hpm
      have hds := hrd.small
      obtain ⟨ad, cd, hpd⟩ := hrd.len
      rw [hpd] at q2
      have HSN : Hid (ps.take (k + 1) = ps.take k ++ [p]) := Lib.hid (by rw [List.take_add_one, hp]; rfl)
      have HPM := Lib.hid hpm
      clear q0 hp hpm hrd hpd
      have hno : ∀ (hf : fewR p.1 = false), fewB (ps.map (·.1)) = false := fun hf => by
        unfold fewB
        have : (ps.map (·.1)).all fewR = false := by
          rw [List.all_eq_false]
          exact ⟨p.1, List.mem_map_of_mem HPM.out, by simp [hf]⟩
        rw [this]; rfl
      have HNO := Lib.hid hno
      clear hno
      by_cases h1 : p.1.2.2.length ≤ 400
      · have h1' : (p.1.2.2.length : Int) ≤ 400 := by omega
        by_cases h2 : p.1.2.1 ≤ 2000
        · have HF : Hid (fewR p.1 = true) := Lib.hid (by unfold fewR; simp [h1, h2])
          clear h1
          go_wp2
          go_round
          case rel => exact ⟨k + 1, by omega, by go_num, Lib.hid (by
            rw [HSN.out]
            intro q hq
            rcases List.mem_append.1 hq with h | h
            · exact HOK.out q h
            · simp at h; subst h; exact HF.out)⟩
          case measure => simp [intOf]; omega
        · have HF : Hid (fewR p.1 = false) := Lib.hid (by unfold fewR; simp [h2])
          have h2' : 2000 < p.1.2.1 := by omega
          clear h1 h2
          go_wp2
          go_ret
          exact ⟨by rw [HNO.out HF.out]; rfl, rfl⟩
      · have HF : Hid (fewR p.1 = false) := Lib.hid (by unfold fewR; simp; omega)
        have h1' : (400 : Int) < p.1.2.2.length := by omega
        clear h1
        go_wp2
        go_ret
        exact ⟨by rw [HNO.out HF.out]; rfl, rfl⟩
    · obtain rfl : k = ps.length := by omega
      have hall : (ps.map (·.1)).all fewR = true := by
        rw [List.all_eq_true]
        intro r hr
        obtain ⟨p, hp, rfl⟩ := List.mem_map.1 hr
        have h := HOK.out
        rw [List.take_of_length_le (Nat.le_refl _)] at h
        exact h p hp
      have HA := Lib.hid hall
      clear hall
      by_cases h3 : ps.length ≤ 30
      · have h3' : (ps.length : Int) ≤ 30 := by omega
        have HE : Hid (fewB (ps.map (·.1)) = true) := Lib.hid (by unfold fewB; rw [HA.out]; simpa using h3)
        clear h3
        go_wp2
        go_ret
        exact ⟨by rw [HE.out]; rfl, rfl⟩
      · have h3' : (30 : Int) < ps.length := by omega
        have HE : Hid (fewB (ps.map (·.1)) = false) := Lib.hid (by unfold fewB; rw [HA.out]; simp; omega)
        have hd : decide ((ps.length : Int) ≤ 30) = false := by simp; omega
        clear h3
        go_wp2
        go_ret
        exact ⟨by rw [HE.out]; rfl, rfl⟩
theorem fewB_spec {ps : List RP} (h : fewB (ps.map (·.1)) = true) : ps.length ≤ 30 ∧ ∀ p ∈ ps, p.1.2.2.length ≤ 400 ∧ p.1.2.1 ≤ 2000 := by
  unfold fewB at h
  rw [Bool.and_eq_true, List.all_eq_true, decide_eq_true_eq, List.length_map] at h
  refine ⟨h.2, fun p hp => ?_⟩
  have := h.1 p.1 (List.mem_map_of_mem hp)
  unfold fewR at this
  simpa using this

end Go.Proofs.Ytfdkmncjcehdkaa
