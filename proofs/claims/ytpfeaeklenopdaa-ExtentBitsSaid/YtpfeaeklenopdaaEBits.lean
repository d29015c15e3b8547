/-
  law.ExtentBits: the walk.
-/
import Derived.Test.YtpfeaeklenopdaaEAwake
namespace Go.Proofs.Ytpfeaeklenopdaa
open Go.RowKit Go.Shelf

theorem BytesP.use {w : World} {c : Int} {o : Option (List UInt8)} {e : Ending} {w' : World} (h : BytesP w c o e w') : ∃ v', e = .returned (.tuple #[v', .int .i64 (codeS c o)]) ∧ Rd w' v' (o.getD []) ∧ w.grownBy w' none := by
  unfold BytesP at h
  cases o with
  | none => exact ⟨_, h.1, .inl ⟨rfl, rfl⟩, h.2⟩
  | some l =>
    obtain ⟨v', h1, h2, h3⟩ := h
    exact ⟨v', h1, h2.rd, h3⟩
set_option maxRecDepth 100000 in
set_option maxHeartbeats 4000000 in
theorem bits_any (v : Value) (l : List UInt8) (i x y : Int) (w : World) (hv : Rd w v l) (hi1 : -9223372036854775808 ≤ i) (hi2 : i ≤ 9223372036854775807) :
    Calls Try.prog 3 #[v, .int .i64 i, .agg #[.int .i64 x, .int .i64 y]] w (BoolQ true w) := by
  have HA := Lib.hid (awake_any)
  have HFW := Lib.hid (fun W (hg : w.grownBy W none) => few_any v l W (hv.grown hg))
  have HV := Lib.hid hv
  have hbx := heap_at_alloc w (.cells #[.int .i64 x, .int .i64 y] 24)
  have HBX := Lib.hid hbx
  obtain ⟨W0, hW0⟩ : ∃ W0, w.alloc (.cells #[.int .i64 x, .int .i64 y] 24) = W0 := ⟨_, rfl⟩
  have HG0 : Hid (w.grownBy W0 none) := Lib.hid (by rw [← hW0]; exact gb_alloc _ _ _)
  have HC : Hid (∀ W, W0.grownBy W none → W.cell? ⟨w.heap.size, 0, none⟩ = some (.int .i64 x) ∧ W.cell? ⟨w.heap.size, 1, none⟩ = some (.int .i64 y)) := Lib.hid (fun W hg => by
    have h := blk_kept hbx (by rw [hW0]; exact hg)
    exact ⟨cell_row h, cell_row h⟩)
  have HW0 := Lib.hid hW0
  obtain ⟨a, c, rfl⟩ := hv.len
  clear hv hbx hW0
  by_cases hl : l.length ≤ 40
  · have hlI : (l.length : Int) ≤ 40 := by omega
    have hd : decide ((l.length : Int) ≤ 40) = true := by simpa using hlI
    rw [hd] at HFW
    have HCl := Lib.hid (fun W (hg : w.grownBy W none) => clear_any _ l x y W (HV.out.grown hg) (by omega))
    have HRC := Lib.hid (fun W (hg : w.grownBy W none) => rclear_any _ l x y W (HV.out.grown hg) (by omega))
    have HSe := Lib.hid (fun W on (hg : w.grownBy W none) => set_any _ l i on W (HV.out.grown hg) (by omega))
    have HRS := Lib.hid (fun W on (hg : w.grownBy W none) => rset_any _ l i on W (HV.out.grown hg) (by omega) hi1 hi2)
    have HGe := Lib.hid (fun W (hg : w.grownBy W none) => get_any _ l i W (HV.out.grown hg) (by omega))
    have HRG := Lib.hid (fun W (hg : w.grownBy W none) => rget_any _ l i W (HV.out.grown hg) (by omega) hi1 hi2)
    have HCo := Lib.hid (fun W (hg : w.grownBy W none) => count_any _ l W (HV.out.grown hg) (by omega))
    have HRN := Lib.hid (fun W (hg : w.grownBy W none) => rcount_any _ l W (HV.out.grown hg) (by omega))
    unfold NumP at HCl HRC
    generalize (((clearS l x y).getD 0 : Nat) : Int) = cn at *
    generalize codeS 1 (clearS l x y) = ce at *
    generalize ((findL l 0 (8 * l.length) true).length : Int) = nn at *
    generalize bitI l i = gb at *
    clear hl hd
    go_enter Try.func3, Try.ntmps3
    go_wp2_with fail
    rw [HW0.out]
    refine (HA.out _).mono ?_
    rintro e w1 ⟨rfl, hg1⟩
    have HG1 := Lib.hid (gb_same HG0.out hg1)
    obtain ⟨k0, k1⟩ := HC.out _ hg1
    have HG01 := Lib.hid hg1
    clear hg1
    go_wp2_with (first | (go_at_call 12; refine (HFW.out _ HG1.out).mono ?_; rintro e w' ⟨rfl, rfl⟩) | (go_at_call 13; refine (HCl.out _ HG1.out).mono ?_; go_must (rintro e w2 ⟨rfl, hg2⟩; have HG2 := Lib.hid (gb_same HG1.out hg2); have HG02 := Lib.hid (gb_same HG01.out hg2); obtain ⟨k2, k3⟩ := HC.out _ HG02.out; clear hg2)) | (go_at_call 14; refine (HRC.out _ HG2.out).mono ?_; go_must (rintro e w3 ⟨rfl, hg3⟩; have HG3 := Lib.hid (gb_same HG2.out hg3); clear hg3)))
    obtain ⟨W5, hW5⟩ : ∃ W5, w3.alloc (.cells #[.bool false, .bool true] 4) = W5 := ⟨_, rfl⟩
    have HG5 : Hid (w.grownBy W5 none) := Lib.hid (by rw [← hW5]; exact gb_same HG3.out (gb_alloc _ _ _))
    have HCB : Hid (∀ W, W5.grownBy W none → W.cell? ⟨w3.heap.size, 0, none⟩ = some (.bool false) ∧ W.cell? ⟨w3.heap.size, 1, none⟩ = some (.bool true)) := Lib.hid (fun W hg => by
      have h := blk_kept (heap_at_alloc w3 (.cells #[.bool false, .bool true] 4)) (by rw [hW5]; exact hg)
      exact ⟨cell_row h, cell_row h⟩)
    rw [hW5]
    clear hW5 k0 k1 k2 k3 HC HBX HW0 HCl HRC HG1 HG2 HG3 HG01 HG02 HG0
    go_loopw [42] (fun u wr => ∃ k : Nat, k ≤ 2 ∧ u = .int .i64 (k : Int) ∧ Hid (w.grownBy wr none) ∧ Hid (W5.grownBy wr none)) (fun u _ => 2 - (intOf u).toNat)
    case atStart => exact ⟨0, by omega, rfl, HG5, Lib.hid (gb_refl _ _)⟩
    case round =>
      obtain ⟨k, hk, rfl, HG, HGB⟩ := hrel
      obtain rfl | rfl | rfl : k = 0 ∨ k = 1 ∨ k = 2 := by omega
      · have HS1 := Lib.hid (HSe.out wr false HG.out)
        have HR1 := Lib.hid (fun W (hg : wr.grownBy W none) => HRS.out W false (gb_same HG.out hg))
        obtain ⟨q0, q1⟩ := HCB.out wr HGB.out
        generalize hso : (setS l i false) = so at *
        clear hso
        go_wp2_with (first | (go_at_call 15; refine HS1.out.mono ?_; go_must (intro e w6 hh; obtain ⟨v6, rfl, hr6, hg6⟩ := hh.use; have HR6 := Lib.hid hr6; have HG6 := Lib.hid hg6; clear hh hr6 hg6)) | (go_at_call 16; refine (HR1.out _ HG6.out).mono ?_; go_must (intro e w7 hh; obtain ⟨v7, rfl, hr7, hg7⟩ := hh.use; have HR7 := Lib.hid hr7; have HG7 := Lib.hid (gb_same HG6.out hg7); have HSM := Lib.hid (same_any v6 v7 (so.getD []) (so.getD []) w7 (HR6.out.grown hg7) hr7); clear hh hr7 hg7; rw [beq_refl'] at HSM; generalize codeS 2 so = sc at *)) | (go_at_call 17; refine HSM.out.mono ?_; rintro e w' ⟨rfl, rfl⟩))
        go_roundw
        case rel => exact ⟨1, by omega, rfl, Lib.hid (gb_same HG.out HG7.out), Lib.hid (gb_same HGB.out HG7.out)⟩
        case measure => simp [intOf]
      · have HS1 := Lib.hid (HSe.out wr true HG.out)
        have HR1 := Lib.hid (fun W (hg : wr.grownBy W none) => HRS.out W true (gb_same HG.out hg))
        obtain ⟨q0, q1⟩ := HCB.out wr HGB.out
        generalize hso : (setS l i true) = so at *
        clear hso
        go_wp2_with (first | (go_at_call 15; refine HS1.out.mono ?_; go_must (intro e w6 hh; obtain ⟨v6, rfl, hr6, hg6⟩ := hh.use; have HR6 := Lib.hid hr6; have HG6 := Lib.hid hg6; clear hh hr6 hg6)) | (go_at_call 16; refine (HR1.out _ HG6.out).mono ?_; go_must (intro e w7 hh; obtain ⟨v7, rfl, hr7, hg7⟩ := hh.use; have HR7 := Lib.hid hr7; have HG7 := Lib.hid (gb_same HG6.out hg7); have HSM := Lib.hid (same_any v6 v7 (so.getD []) (so.getD []) w7 (HR6.out.grown hg7) hr7); clear hh hr7 hg7; rw [beq_refl'] at HSM; generalize codeS 2 so = sc at *)) | (go_at_call 17; refine HSM.out.mono ?_; rintro e w' ⟨rfl, rfl⟩))
        go_roundw
        case rel => exact ⟨2, by omega, rfl, Lib.hid (gb_same HG.out HG7.out), Lib.hid (gb_same HGB.out HG7.out)⟩
        case measure => simp [intOf]
      · have HGW := Lib.hid (HGe.out wr HG.out)
        have HGR := Lib.hid (HRG.out wr.drew (gb_same HG.out (gb_drew _ _)))
        have HN1 := Lib.hid (HCo.out wr.drew (gb_same HG.out (gb_drew _ _)))
        go_wp2_with (first | (go_at_call 18; refine HGW.out.mono ?_; rintro e w' ⟨rfl, rfl⟩) | (go_at_call 19; refine HGR.out.mono ?_; rintro e w' ⟨rfl, rfl⟩) | (go_at_call 20; refine HN1.out.mono ?_; go_must (rintro e w8 ⟨rfl, hg8⟩; have HG8 := Lib.hid (gb_same (gb_same HG.out (gb_drew _ _)) hg8); clear hg8)) | (go_at_call 21; refine (HRN.out _ HG8.out).mono ?_; go_must (rintro e w9 ⟨rfl, hg9⟩; have HG9 := Lib.hid (gb_same HG8.out hg9); clear hg9)))
        go_ret
        exact ⟨rfl, HG9.out⟩
  · have hd : decide ((l.length : Int) ≤ 40) = false := by simp; omega
    rw [hd] at HFW
    clear hl hd
    go_enter Try.func3, Try.ntmps3
    go_wp2_with fail
    rw [HW0.out]
    refine (HA.out _).mono ?_
    rintro e w1 ⟨rfl, hg1⟩
    have HG1 := Lib.hid (gb_same HG0.out hg1)
    clear hg1
    go_wp2_with (go_at_call 12; refine (HFW.out _ HG1.out).mono ?_; rintro e w' ⟨rfl, rfl⟩)
    go_ret
    exact ⟨rfl, HG1.out⟩
end Go.Proofs.Ytpfeaeklenopdaa
