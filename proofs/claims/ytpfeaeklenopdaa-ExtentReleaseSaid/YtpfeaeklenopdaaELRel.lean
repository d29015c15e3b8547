/-
  law.ExtentRelease: the walk.
-/
import Derived.Test.YtpfeaeklenopdaaEAwake
import Derived.Test.YtpfeaeklenopdaaERel
namespace Go.Proofs.Ytpfeaeklenopdaa
open Go.RowKit Go.Shelf

def btR (o : Except Int (List UInt8)) : List UInt8 := match o with | .error _ => [] | .ok p => p
def cdR (o : Except Int (List UInt8)) : Int := match o with | .error c => c | .ok _ => 0
theorem RelP.use {w : World} {o : Except Int (List UInt8)} {e : Ending} {w' : World} (h : RelP w o e w') : ∃ v', e = .returned (.tuple #[v', .int .i64 (cdR o)]) ∧ Rd w' v' (btR o) ∧ w.grownBy w' none := by
  unfold RelP at h
  cases o with
  | error c => exact ⟨_, h.1, .inl ⟨rfl, rfl⟩, h.2⟩
  | ok p =>
    obtain ⟨v', h1, h2, h3⟩ := h
    exact ⟨v', h1, h2.rd, h3⟩
set_option maxRecDepth 100000 in
set_option maxHeartbeats 4000000 in
theorem lrel_any (v zv : Value) (l : List UInt8) (zs : List Int) (w : World) (hv : Rd w v l) (hz : RdL w zv (ivs zs)) (hzb : ∀ z ∈ zs, -9223372036854775808 ≤ z ∧ z ≤ 9223372036854775807) (hzl : (zs.length : Int) ≤ 9223372036854775807) :
    Calls Try.prog 6 #[v, zv] w (BoolQ true w) := by
  have HA := Lib.hid (awake_any)
  have HFW := Lib.hid (fun W (hg : w.grownBy W none) => few_any v l W (hv.grown hg))
  have HV := Lib.hid hv
  have HZ := Lib.hid hz
  have HZB := Lib.hid hzb
  obtain ⟨a, c, rfl⟩ := hv.len
  obtain ⟨az, cz, rfl⟩ := hz.len
  rw [ivs_len] at HZ ⊢
  clear hv hz hzb
  by_cases hl : l.length ≤ 40
  · have hd : decide ((l.length : Int) ≤ 40) = true := by simp; omega
    rw [hd] at HFW
    by_cases hz100 : 100 < zs.length
    · have hzI : (100 : Int) < (zs.length : Int) := by omega
      clear hd hl hz100
      go_enter Try.func6, Try.ntmps6
      go_wp2_with fail
      refine (HA.out _).mono ?_
      rintro e w1 ⟨rfl, hg1⟩
      have HG1 := Lib.hid hg1
      clear hg1
      go_wp2_with (go_at_call 12; refine (HFW.out _ HG1.out).mono ?_; rintro e w' ⟨rfl, rfl⟩)
      go_ret
      exact ⟨rfl, HG1.out⟩
    · have hzI : ¬ (100 : Int) < (zs.length : Int) := by omega
      have HRe := Lib.hid (fun W (hg : w.grownBy W none) => release_any _ _ l zs W (HV.out.grown hg) (HZ.out.grown hg) (by omega) (by omega))
      have HRR := Lib.hid (fun W (hg : w.grownBy W none) => rrelease_any _ _ l zs W (HV.out.grown hg) (HZ.out.grown hg) (by omega) (by omega) HZB.out)
      generalize relO l zs = oo at *
      clear hd hl hz100
      go_enter Try.func6, Try.ntmps6
      go_wp2_with fail
      refine (HA.out _).mono ?_
      rintro e w1 ⟨rfl, hg1⟩
      have HG1 := Lib.hid hg1
      clear hg1
      go_wp2_with (first | (go_at_call 12; refine (HFW.out _ HG1.out).mono ?_; rintro e w' ⟨rfl, rfl⟩) | (go_at_call 27; refine (HRe.out _ HG1.out).mono ?_; go_must (intro e w2 hh; obtain ⟨v2, rfl, hr2, hg2⟩ := hh.use; have HR2 := Lib.hid hr2; have HG2 := Lib.hid (gb_same HG1.out hg2); clear hh hr2 hg2)) | (go_at_call 28; refine (HRR.out _ HG2.out).mono ?_; go_must (intro e w3 hh; obtain ⟨v3, rfl, hr3, hg3⟩ := hh.use; have HG3 := Lib.hid (gb_same HG2.out hg3); have HSM := Lib.hid (same_any v2 v3 (btR oo) (btR oo) w3 (HR2.out.grown hg3) hr3); rw [beq_refl'] at HSM; clear hh hr3 hg3; generalize cdR oo = cz at *)) | (go_at_call 17; refine HSM.out.mono ?_; rintro e w' ⟨rfl, rfl⟩))
      go_ret
      exact ⟨rfl, HG3.out⟩
  · have hd : decide ((l.length : Int) ≤ 40) = false := by simp; omega
    rw [hd] at HFW
    clear hl hd
    go_enter Try.func6, Try.ntmps6
    go_wp2_with fail
    refine (HA.out _).mono ?_
    rintro e w1 ⟨rfl, hg1⟩
    have HG1 := Lib.hid hg1
    clear hg1
    go_wp2_with (go_at_call 12; refine (HFW.out _ HG1.out).mono ?_; rintro e w' ⟨rfl, rfl⟩)
    go_ret
    exact ⟨rfl, HG1.out⟩
end Go.Proofs.Ytpfeaeklenopdaa
