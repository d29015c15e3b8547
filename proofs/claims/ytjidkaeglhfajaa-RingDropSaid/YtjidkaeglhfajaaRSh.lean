/-
  law.short, and the reference's Same on equal bytes: the walks.
-/
import Derived.Test.YtjidkaeglhfajaaRArg
namespace Go.Proofs.Ytjidkaeglhfajaa
open Go.RowKit

set_option maxRecDepth 100000 in
set_option maxHeartbeats 400000 in
theorem same_gW (a b : Value) (w : World) (l : List UInt8) (ha : RdW w a l) (hb : RdW w b l) :
    Calls Try.prog 19 #[a, b] w fun e w' => e = .returned (.bool true) ∧ w.grownBy w' none := by
  have r1 := run_toStringW w a l ha
  have r2 := run_toStringW w b l hb
  clear ha hb
  go_enter Try.func19, Try.ntmps19
  go_wp2
  go_ret
  exact ⟨rfl, gb_refl _ _⟩

def shortB (ps : List RP) : Bool := ps.all (fun p => decide (p.1.2.2.length ≤ 200)) && decide (ps.length ≤ 40)
theorem shortB_spec {ps : List RP} (h : shortB ps = true) : (∀ p ∈ ps, p.1.2.2.length ≤ 200) ∧ ps.length ≤ 40 := by
  unfold shortB at h
  simp only [Bool.and_eq_true, List.all_eq_true, decide_eq_true_eq] at h
  exact h
def BoolS (t : Bool) (w : World) (e : Ending) (w' : World) : Prop := e = .returned (.bool t) ∧ w = w'
set_option maxRecDepth 100000 in
set_option maxHeartbeats 2000000 in
theorem short_any (lv : Value) (ps : List RP) (w : World) (hl : RdRs w lv ps) :
    Calls Try.prog 11 #[lv] w (BoolS (shortB ps) w) := by
  have hsm := hl.1.small
  obtain ⟨al, cl, rfl⟩ := hl.1.len
  have HL := Lib.hid hl
  clear hl
  go_enter Try.func11, Try.ntmps11
  go_wp2_with fail
  go_loop [3] (fun i => ∃ k : Nat, k ≤ ps.length ∧ i = .int .i64 k ∧ Hid (∀ p ∈ ps.take k, p.1.2.2.length ≤ 200)) (fun i => ps.length - (intOf i).toNat)
  case atStart => exact ⟨0, Nat.zero_le _, rfl, Lib.hid (by simp)⟩
  case round =>
    obtain ⟨k, hk, rfl, HOK⟩ := hrel
    by_cases hlt : k < ps.length
    · obtain ⟨p, hp⟩ : ∃ p, ps[k]? = some p := ⟨ps[k], by simp [hlt]⟩
      have hpm := List.mem_of_getElem? hp
      obtain ⟨gb, off, rfl, q0, q1, q2⟩ := HL.out.1.at hp
      have hrd := HL.out.2 p hpm
      have hds := hrd.small
      obtain ⟨ad, cd, hpd⟩ := hrd.len
      rw [hpd] at q2
      have HSN : Hid (ps.take (k + 1) = ps.take k ++ [p]) := Lib.hid (by rw [List.take_add_one, hp]; rfl)
      have HPM := Lib.hid hpm
      clear q0 q1 hp hpm hrd hpd
      by_cases h1 : p.1.2.2.length ≤ 200
      · have h1' : (p.1.2.2.length : Int) ≤ 200 := by omega
        have HF := Lib.hid h1
        clear h1
        go_wp2
        go_round
        case rel => exact ⟨k + 1, by omega, by go_num, Lib.hid (by
          rw [HSN.out]
          intro q hq
          rcases List.mem_append.1 hq with h | h
          · exact HOK.out q h
          · simp at h; subst h; exact HF.out)⟩
        case measure => simp [intOf]; omega
      · have HF : Hid (shortB ps = false) := Lib.hid (by
          unfold shortB
          rw [Bool.and_eq_false_iff]
          left
          rw [List.all_eq_false]
          exact ⟨p, HPM.out, by simpa using h1⟩)
        have h1' : (200 : Int) < p.1.2.2.length := by omega
        clear h1
        go_wp2
        go_ret
        exact ⟨by rw [HF.out]; rfl, rfl⟩
    · obtain rfl : k = ps.length := by omega
      have hall : ps.all (fun p => decide (p.1.2.2.length ≤ 200)) = true := by
        rw [List.all_eq_true]
        intro p hp
        have h := HOK.out
        rw [List.take_of_length_le (Nat.le_refl _)] at h
        simpa using h p hp
      have HA := Lib.hid hall
      clear hall
      by_cases h3 : ps.length ≤ 40
      · have h3' : (ps.length : Int) ≤ 40 := by omega
        have HE : Hid (shortB ps = true) := Lib.hid (by unfold shortB; rw [HA.out]; simpa using h3)
        clear h3
        go_wp2
        go_ret
        exact ⟨by rw [HE.out]; rfl, rfl⟩
      · have h3' : (40 : Int) < ps.length := by omega
        have HE : Hid (shortB ps = false) := Lib.hid (by unfold shortB; rw [HA.out]; simp; omega)
        have hd : decide ((ps.length : Int) ≤ 40) = false := by simp; omega
        clear h3
        go_wp2
        go_ret
        exact ⟨by rw [HE.out]; rfl, rfl⟩
end Go.Proofs.Ytjidkaeglhfajaa
