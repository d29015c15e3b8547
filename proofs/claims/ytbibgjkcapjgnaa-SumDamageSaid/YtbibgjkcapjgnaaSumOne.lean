/-
  law.SumOne: the walk.
-/
import Derived.Test.YtbibgjkcapjgnaaSAwake
namespace Go.Proofs.Ytbibgjkcapjgnaa
open Go.RowKit

theorem two_blocks {w w0 : World} {o o' : Obj} (h : w0 = (w.alloc o).alloc o') : w0.heap[w.heap.size]? = some o ∧ w0.heap[w.heap.size + 1]? = some o' ∧ w.grownBy w0 none := by
  subst h
  refine ⟨heap_alloc2_old w o o', heap_alloc2_new w o o', gb_same (gb_alloc _ _ _) (gb_alloc _ _ _)⟩
theorem int_beq {a b : Nat} (p : Bool) (h : (a == b) = p) : ((a : Int) == (b : Int)) = p := by
  rw [← h]
  rw [Bool.eq_iff_iff, beq_iff_eq, beq_iff_eq]
  omega

theorem sumOne_math {h : Nat} (hh : h < 18446744073709551616) (l : List UInt8) (i : Nat) (t : UInt8) (hi : i < l.length) :
    ((fromL h l : Int) == (fromL h (l.set i t) : Int)) = (l[i] == t) ∧ ((l[i].toNat : Int) == (t.toNat : Int)) = (l[i] == t) ∧ ((ofL l : Int) == (ofL (l.set i t) : Int)) = (l[i] == t) := by
  have h1 := fromL_set hh l i t hi
  have h2 : ofL l = ofL (l.set i t) ↔ l[i] = t := by
    unfold ofL numL
    rw [List.length_set, fromL_iff _ (fromL_lt (by omega) _) (fromL_lt (by omega) _)]
    exact fromL_set (by omega) l i t hi
  refine ⟨int_beq _ ?_, int_beq _ ?_, int_beq _ ?_⟩
  · rw [Bool.eq_iff_iff, beq_iff_eq, beq_iff_eq]; exact h1
  · rw [Bool.eq_iff_iff, beq_iff_eq, beq_iff_eq]; exact ⟨fun h => UInt8.toNat_inj.1 h, fun h => by rw [h]⟩
  · rw [Bool.eq_iff_iff, beq_iff_eq, beq_iff_eq]; exact h2

set_option maxRecDepth 100000 in
set_option maxHeartbeats 4000000 in
theorem sumOne_any (h0 h1 : Nat) (v : Value) (l : List UInt8) (a : Nat) (t : UInt8) (w : World) (hh0 : h0 < 18446744073709551616) (hh1 : h1 < 18446744073709551616) (ha : a < 65536) (hv : Rd w v l) :
    Calls Try.prog 4 #[.agg #[.int .u64 (h0 : Int), .int .u64 (h1 : Int)], v, .agg #[.int .u16 (a : Int), .int .u8 (t.toNat : Int)]] w (BoolQ true w) := by
  have hs := hv.small
  obtain ⟨ad, c, rfl⟩ := hv.len
  obtain ⟨w0, hw0⟩ : ∃ W, W = (w.alloc (Obj.cells #[.int .u64 (h0 : Int), .int .u64 (h1 : Int)] 31)).alloc (Obj.cells #[.int .u16 (a : Int), .int .u8 (t.toNat : Int)] 34) := ⟨_, rfl⟩
  obtain ⟨hb0, hb1, hg0⟩ := two_blocks hw0
  have HB0 := Lib.hid hb0
  have HB1 := Lib.hid hb1
  have HG0 := Lib.hid hg0
  have HW := Lib.hid hw0
  have HV := Lib.hid hv
  clear hw0 hv hb0 hb1 hg0
  go_enter Try.func4, Try.ntmps4
  go_wp2_with fail
  rw [← HW.out]
  refine (awake_any _).mono ?_; rintro e w1 ⟨rfl, hg1⟩
  have c0 : w1.cell? ⟨w.heap.size, 0, none⟩ = some (.int .u64 (h0 : Int)) := cell_row (blk_kept HB0.out hg1)
  have c1 : w1.cell? ⟨w.heap.size, 1, none⟩ = some (.int .u64 (h1 : Int)) := cell_row (blk_kept HB0.out hg1)
  have d0 : w1.cell? ⟨w.heap.size + 1, 0, none⟩ = some (.int .u16 (a : Int)) := cell_row (blk_kept HB1.out hg1)
  have d1 : w1.cell? ⟨w.heap.size + 1, 1, none⟩ = some (.int .u8 (t.toNat : Int)) := cell_row (blk_kept HB1.out hg1)
  have HG1 := Lib.hid (gb_same HG0.out hg1)
  clear hg1 HB0 HB1 HG0 HW
  by_cases h600 : 600 < l.length
  · go_wp2
    go_ret
    exact ⟨rfl, HG1.out⟩
  have HF := Lib.hid (fun (h : Nat) (W : World) (hh : h < 18446744073709551616) (hg : w.grownBy W none) => from_any h _ l W hh (HV.out.grown hg))
  have hE : (((fromL h0 l : Int) == (fromL h1 l : Int)) = ((h0 : Int) == (h1 : Int))) := by
    rw [int_beq (h0 == h1) rfl]
    refine int_beq _ ?_
    rw [Bool.eq_iff_iff, beq_iff_eq, beq_iff_eq]
    exact fromL_iff l hh0 hh1
  go_wp2
  go_quiet ((go_at_call 10; exact quiet_mine (HF.out _ _ (by assumption) (gb_same HG1.out (gb_drewN _ _ _)))))
  clear hE
  have HGQ := Lib.hid (gb_same HG1.out (gb_drewN w1 nq none))
  have hb1 : w.heap.size + 1 < w1.heap.size := World.block_lt_of_cell? _ _ d1
  have HO := Lib.hid (Own.lit (w1.drewN nq) #[] [] 0 w1.heap.size rfl rfl (Nat.le_refl _) (Nat.zero_le _))
  have HGA := Lib.hid (fun o => gb_same HGQ.out (gb_alloc (w1.drewN nq) o none))
  have HG1A := Lib.hid (fun o => gb_same (gb_drewN w1 nq none) (gb_alloc (w1.drewN nq) o none))
  by_cases h00 : l.length = 0
  · have h01 : (l.length : Int) = 0 := by omega
    go_wp2
    go_ret
    exact ⟨rfl, HGQ.out⟩
  have h01 : 1 ≤ (l.length : Int) := by omega
  have hi : a % l.length < l.length := Nat.mod_lt _ (by omega)
  have hne : l ≠ [] := fun e => h00 (by rw [e]; rfl)
  obtain ⟨i, hii⟩ : ∃ i, a % l.length = i := ⟨_, rfl⟩
  rw [hii] at hi
  have hia : (a : Int) % (l.length : Int) = (i : Int) := by rw [← hii, Int.natCast_emod]
  have HNE := Lib.hid hne
  have HM := Lib.hid (sumOne_math hh0 l i t hi)
  have HRG := Lib.hid (HV.out.at (j := i) (x := l[i]) (by simp [hi]))
  clear hii hne
  go_wp2_with (at_builtin; refine app_bytes rfl _ _ rfl w1.heap.size _ _ [] l rfl rfl HO.out (HV.out.grown (HGA.out _)) (HG1A.out _).size (by simp; omega) ?_; go_must (intro v2 w2 ho2 hg2 hf2; rw [List.nil_append] at ho2; obtain ⟨g, cap, rfl, hgB, hgs⟩ := Own.at ho2 HNE.out; have HO2 := Lib.hid ho2; have HG12 : Hid (w1.grownBy w2 none) := Lib.hid (gb_trans (HG1A.out _) hg2 (fun k hk => .inr (by have := (HO.out.lt k hk).1; omega))); have hcl := HO2.out.cellAt rfl i l[i] (by simp [hi]); have hfr := HO2.out.frozenAt rfl i; have e0 := HG12.out.cell c0 (by simp); have e1 := HG12.out.cell c1 (by simp); have f0 := HG12.out.cell d0 (by simp); have f1 := HG12.out.cell d1 (by simp); have k0 : w.heap.size ≠ g := (by omega); have k1 : w.heap.size + 1 ≠ g := (by omega); clear ho2 hf2 hg2))
  obtain ⟨w3, hw3⟩ : ∃ W, W = w2.setCell ⟨g, i, none⟩ (.int .u8 (t.toNat : Int)) := ⟨_, rfl⟩
  have HO3 : Hid (Own w3 w1.heap.size (.slice (some ⟨g, 0, none⟩) l.length cap) (l.set i t)) := Lib.hid (by rw [hw3]; exact HO2.out.set rfl i t)
  have hg23 : w2.grownBy w3 (some g) := by rw [hw3]; exact gb_setCell _ _ _
  have HG3 : Hid (w.grownBy w3 none) := Lib.hid (gb_trans (gb_same HG1.out HG12.out) hg23 (fun k hk => .inr (by cases hk; omega)))
  have p0 := hg23.cell e0 (by simp; omega)
  have p1 := hg23.cell f1 (by simp; omega)
  rw [← hw3]
  clear hw3 hg23 e0 e1 f0 f1 k0 k1 hcl hfr c0 c1 d0 d1 HG12 HO2 HO HGA HG1A HGQ
  obtain ⟨gv, offv, rfl, hcv⟩ := HRG.out
  have p2 := HG3.out.cell hcv (by simp)
  obtain ⟨E1, E2, E3⟩ := HM.out
  clear HRG HM hcv
  have HFC := Lib.hid (fun (h : Nat) (W : World) (hh : h < 18446744073709551616) (hg : w3.grownBy W none) => from_any h _ (l.set i t) W hh (HO3.out.rd.grown hg))
  have HOA := Lib.hid (fun (W : World) (hg : w3.grownBy W none) => of_any _ l W (HV.out.grown (gb_same HG3.out hg)))
  have HOC := Lib.hid (fun (W : World) (hg : w3.grownBy W none) => of_any _ (l.set i t) W (HO3.out.rd.grown hg))
  generalize (l[i] == t) = q at *
  generalize l[i].toNat = li at *
  go_quiet ((first | (go_at_call 10; first | (with_reducible exact quiet_mine (HF.out _ _ hh0 (gb_same HG3.out (gb_drewN _ _ _)))) | (with_reducible exact quiet_mine (HFC.out _ _ hh0 (gb_drewN _ _ _)))) | (go_at_call 12; first | (with_reducible exact quiet_mine (HOA.out _ (gb_drewN _ _ _))) | (with_reducible exact quiet_mine (HOC.out _ (gb_drewN _ _ _))))))
  go_wp2
  go_ret
  exact ⟨rfl, gb_same HG3.out (gb_drewN _ _ _)⟩
end Go.Proofs.Ytbibgjkcapjgnaa
