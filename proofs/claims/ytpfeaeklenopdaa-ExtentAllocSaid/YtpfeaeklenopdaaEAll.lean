/-
  law.ExtentAlloc: the walk.
-/
import Derived.Test.YtpfeaeklenopdaaEAwake
import Derived.Test.YtpfeaeklenopdaaERAlloc
namespace Go.Proofs.Ytpfeaeklenopdaa
open Go.RowKit Go.Shelf

def atO (o : Except Int (Nat × List UInt8)) : Int := match o with | .error _ => 0 | .ok p => (p.1 : Int)
def btO (o : Except Int (Nat × List UInt8)) : List UInt8 := match o with | .error _ => [] | .ok p => p.2
def cdO {T : Type} (o : Except Int T) : Int := match o with | .error c => c | .ok _ => 0
theorem AllocP.use {w : World} {o : Except Int (Nat × List UInt8)} {e : Ending} {w' : World} (h : AllocP w o e w') : ∃ v', e = .returned (.tuple #[.int .i64 (atO o), v', .int .i64 (cdO o)]) ∧ Rd w' v' (btO o) ∧ w.grownBy w' none := by
  unfold AllocP at h
  cases o with
  | error c => exact ⟨_, h.1, .inl ⟨rfl, rfl⟩, h.2⟩
  | ok p =>
    obtain ⟨v', h1, h2, h3⟩ := h
    exact ⟨v', h1, h2.rd, h3⟩
set_option maxRecDepth 100000 in
set_option maxHeartbeats 4000000 in
theorem lalloc_any (v : Value) (l : List UInt8) (x y n : Int) (w : World) (hv : Rd w v l) (hn1 : -9223372036854775808 ≤ n) (hn2 : n ≤ 9223372036854775807) :
    Calls Try.prog 4 #[v, .agg #[.int .i64 x, .int .i64 y], .int .i64 n] w (BoolQ true w) := by
  have HA := Lib.hid (awake_any)
  have HFW := Lib.hid (fun W (hg : w.grownBy W none) => few_any v l W (hv.grown hg))
  have HV := Lib.hid hv
  have hbx := heap_at_alloc w (.cells #[.int .i64 x, .int .i64 y] 24)
  obtain ⟨W0, hW0⟩ : ∃ W0, w.alloc (.cells #[.int .i64 x, .int .i64 y] 24) = W0 := ⟨_, rfl⟩
  have HG0 : Hid (w.grownBy W0 none) := Lib.hid (by rw [← hW0]; exact gb_alloc _ _ _)
  have HC : Hid (∀ W, W0.grownBy W none → W.cell? ⟨w.heap.size, 0, none⟩ = some (.int .i64 x) ∧ W.cell? ⟨w.heap.size, 1, none⟩ = some (.int .i64 y)) := Lib.hid (fun W hg => by
    have h := blk_kept hbx (by rw [hW0]; exact hg)
    exact ⟨cell_row h, cell_row h⟩)
  have HW0 := Lib.hid hW0
  obtain ⟨a, c, rfl⟩ := hv.len
  clear hv hbx hW0
  by_cases hl : l.length ≤ 40
  · have hd : decide ((l.length : Int) ≤ 40) = true := by simp; omega
    rw [hd] at HFW
    have HAl := Lib.hid (fun W (hg : w.grownBy W none) => alloc_any _ l x y n W (HV.out.grown hg) (by omega) hn1 hn2)
    have HRA := Lib.hid (fun W (hg : w.grownBy W none) => ralloc_any _ l x y n W (HV.out.grown hg) (by omega) hn1 hn2)
    generalize allocO l x y n = oo at *
    clear hd
    go_enter Try.func4, Try.ntmps4
    go_wp2_with fail
    rw [HW0.out]
    refine (HA.out _).mono ?_
    rintro e w1 ⟨rfl, hg1⟩
    have HG1 := Lib.hid (gb_same HG0.out hg1)
    obtain ⟨k0, k1⟩ := HC.out _ hg1
    have HG01 := Lib.hid hg1
    clear hg1
    go_wp2_with (first | (go_at_call 12; refine (HFW.out _ HG1.out).mono ?_; rintro e w' ⟨rfl, rfl⟩) | (go_at_call 22; refine (HAl.out _ HG1.out).mono ?_; go_must (intro e w2 hh; obtain ⟨v2, rfl, hr2, hg2⟩ := hh.use; have HR2 := Lib.hid hr2; have HG2 := Lib.hid (gb_same HG1.out hg2); have HG02 := Lib.hid (gb_same HG01.out hg2); obtain ⟨k2, k3⟩ := HC.out _ HG02.out; clear hh hr2 hg2)) | (go_at_call 23; refine (HRA.out _ HG2.out).mono ?_; go_must (intro e w3 hh; obtain ⟨v3, rfl, hr3, hg3⟩ := hh.use; have HG3 := Lib.hid (gb_same HG2.out hg3); have HSM := Lib.hid (same_any v2 v3 (btO oo) (btO oo) w3 (HR2.out.grown hg3) hr3); rw [beq_refl'] at HSM; clear hh hr3 hg3; generalize atO oo = az at *; generalize cdO oo = cz at *)) | (go_at_call 17; refine HSM.out.mono ?_; rintro e w' ⟨rfl, rfl⟩))
    go_ret
    exact ⟨rfl, HG3.out⟩
  · have hd : decide ((l.length : Int) ≤ 40) = false := by simp; omega
    rw [hd] at HFW
    clear hl hd
    go_enter Try.func4, Try.ntmps4
    go_wp2_with fail
    rw [HW0.out]
    refine (HA.out _).mono ?_
    rintro e w1 ⟨rfl, hg1⟩
    have HG1 := Lib.hid (gb_same HG0.out hg1)
    clear hg1
    go_wp2_with (go_at_call 12; refine (HFW.out _ HG1.out).mono ?_; rintro e w' ⟨rfl, rfl⟩)
    go_ret
    exact ⟨rfl, HG1.out⟩
end Go.Proofs.Ytpfeaeklenopdaa
