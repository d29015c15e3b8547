/-
  law.ExtentTake: the walk.
-/
import Derived.Test.YtpfeaeklenopdaaEAwake
import Derived.Test.YtpfeaeklenopdaaERTake
namespace Go.Proofs.Ytpfeaeklenopdaa
open Go.RowKit Go.Shelf

def lsT (o : Except Int (List Nat × List UInt8)) : List Nat := match o with | .error _ => [] | .ok p => p.1
def nxT (o : Except Int (List Nat × List UInt8)) : List UInt8 := match o with | .error _ => [] | .ok p => p.2
def cdT {T : Type} (o : Except Int T) : Int := match o with | .error c => c | .ok _ => 0
theorem TakeP.use {w : World} {o : Except Int (List Nat × List UInt8)} {e : Ending} {w' : World} (h : TakeP w o e w') : ∃ lv nv, e = .returned (.tuple #[lv, nv, .int .i64 (cdT o)]) ∧ RdL w' lv (ivs (ns (lsT o))) ∧ Rd w' nv (nxT o) ∧ w.grownBy w' none := by
  unfold TakeP at h
  cases o with
  | error c => exact ⟨_, _, h.1, .inl ⟨rfl, rfl⟩, .inl ⟨rfl, rfl⟩, h.2⟩
  | ok p =>
    obtain ⟨lv, nv, h1, h2, h3, h4, _⟩ := h
    exact ⟨lv, nv, h1, h2.rd, h3.rd, h4⟩
theorem takeO_len (l : List UInt8) (x y n : Int) (hl : l.length ≤ 1000) : (ns (lsT (takeO l x y n))).length ≤ 8000 := by
  rw [ns_len]
  unfold takeO
  by_cases hb : validB l x y = true
  · obtain ⟨f, t, rfl, rfl, hft, ht⟩ := validB_spec hb
    split
    · split
      · simp [lsT]
      · have h1 := findL_len l f t false
        simp only [lsT, Int.toNat_natCast, List.length_take]
        omega
    · simp [lsT]
  · rw [show validB l x y = false by simpa using hb, Bool.false_and, if_neg (by simp)]
    simp [lsT]
set_option maxRecDepth 100000 in
set_option maxHeartbeats 4000000 in
theorem ltake_any (v : Value) (l : List UInt8) (x y n : Int) (w : World) (hv : Rd w v l) (_hn1 : -9223372036854775808 ≤ n) (hn2 : n ≤ 9223372036854775807) :
    Calls Try.prog 5 #[v, .agg #[.int .i64 x, .int .i64 y], .int .i64 n] w (BoolQ true w) := by
  have HA := Lib.hid (awake_any)
  have HFW := Lib.hid (fun W (hg : w.grownBy W none) => few_any v l W (hv.grown hg))
  have HV := Lib.hid hv
  have hbx := heap_at_alloc w (.cells #[.int .i64 x, .int .i64 y] 24)
  obtain ⟨W0, hW0⟩ : ∃ W0, w.alloc (.cells #[.int .i64 x, .int .i64 y] 24) = W0 := ⟨_, rfl⟩
  have HG0 : Hid (w.grownBy W0 none) := Lib.hid (by rw [← hW0]; exact gb_alloc _ _ _)
  have HC : Hid (∀ W, W0.grownBy W none → W.cell? ⟨w.heap.size, 0, none⟩ = some (.int .i64 x) ∧ W.cell? ⟨w.heap.size, 1, none⟩ = some (.int .i64 y)) := Lib.hid (fun W hg => by
    have h := blk_kept hbx (by rw [hW0]; exact hg)
    exact ⟨cell_row h, cell_row h⟩)
  have HW0 := Lib.hid hW0
  obtain ⟨a, c, rfl⟩ := hv.len
  clear hv hbx hW0
  by_cases hl : l.length ≤ 40
  · have hd : decide ((l.length : Int) ≤ 40) = true := by simp; omega
    rw [hd] at HFW
    have HTk := Lib.hid (fun W (hg : w.grownBy W none) => take_any _ l x y n W (HV.out.grown hg) (by omega) hn2)
    have HRT := Lib.hid (fun W (hg : w.grownBy W none) => rtake_any _ l x y n W (HV.out.grown hg) (by omega) hn2)
    have HLB := Lib.hid (takeO_len l x y n (by omega))
    generalize takeO l x y n = oo at *
    clear hd
    go_enter Try.func5, Try.ntmps5
    go_wp2_with fail
    rw [HW0.out]
    refine (HA.out _).mono ?_
    rintro e w1 ⟨rfl, hg1⟩
    have HG1 := Lib.hid (gb_same HG0.out hg1)
    obtain ⟨k0, k1⟩ := HC.out _ hg1
    have HG01 := Lib.hid hg1
    clear hg1
    go_wp2_with (first | (go_at_call 12; refine (HFW.out _ HG1.out).mono ?_; rintro e w' ⟨rfl, rfl⟩) | (go_at_call 24; refine (HTk.out _ HG1.out).mono ?_; go_must (intro e w2 hh; obtain ⟨lv2, v2, rfl, hl2, hr2, hg2⟩ := hh.use; have HR2 := Lib.hid hr2; have HL2 := Lib.hid hl2; have HG2 := Lib.hid (gb_same HG1.out hg2); have HG02 := Lib.hid (gb_same HG01.out hg2); obtain ⟨k2, k3⟩ := HC.out _ HG02.out; clear hh hr2 hg2 hl2)) | (go_at_call 25; refine (HRT.out _ HG2.out).mono ?_; go_must (intro e w3 hh; obtain ⟨lv3, v3, rfl, hl3, hr3, hg3⟩ := hh.use; have HG3 := Lib.hid (gb_same HG2.out hg3); have HSI := Lib.hid (sameInts_true lv2 lv3 w3 (ns (lsT oo)) (HL2.out.grown hg3) hl3 (by have := HLB.out; omega)); have HSM := Lib.hid (fun W (hg : w3.grownBy W none) => same_any v2 v3 (nxT oo) (nxT oo) W (HR2.out.grown (gb_same hg3 hg)) (hr3.grown hg)); rw [beq_refl'] at HSM; clear hh hr3 hg3 hl3; generalize cdT oo = cz at *)) | (go_at_call 26; refine HSI.out.mono ?_; go_must (rintro e w4 ⟨rfl, hg4⟩; have HG4 := Lib.hid (gb_same HG3.out hg4); have HSM4 := Lib.hid (HSM.out _ hg4); clear hg4)) | (go_at_call 17; refine HSM4.out.mono ?_; rintro e w' ⟨rfl, rfl⟩))
    go_ret
    exact ⟨rfl, HG4.out⟩
  · have hd : decide ((l.length : Int) ≤ 40) = false := by simp; omega
    rw [hd] at HFW
    clear hl hd
    go_enter Try.func5, Try.ntmps5
    go_wp2_with fail
    rw [HW0.out]
    refine (HA.out _).mono ?_
    rintro e w1 ⟨rfl, hg1⟩
    have HG1 := Lib.hid (gb_same HG0.out hg1)
    clear hg1
    go_wp2_with (go_at_call 12; refine (HFW.out _ HG1.out).mono ?_; rintro e w' ⟨rfl, rfl⟩)
    go_ret
    exact ⟨rfl, HG1.out⟩
end Go.Proofs.Ytpfeaeklenopdaa
