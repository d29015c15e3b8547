/-
  law.ImageLocal: the walk.
-/
import Derived.Test.YtnkgoaloigmmfaaIAwake
import Derived.Test.YtnkgoaloigmmfaaIMath
namespace Go.Proofs.Ytnkgoaloigmmfaa
open Go.RowKit

set_option maxRecDepth 100000 in
set_option maxHeartbeats 4000000 in
theorem imageLocal_any (v : Value) (l : List UInt8) (a : Nat) (t : UInt8) (w : World) (ha : a < 65536) (hv : Rd w v l) :
    Calls Try.prog 9 #[v, .int .u16 (a : Int), .int .u8 (t.toNat : Int)] w (BoolQ true w) := by
  have hs := hv.small
  have HV := Lib.hid hv
  obtain ⟨ad, c, rfl⟩ := hv.len
  clear hv
  have HA := Lib.hid (awake_any w)
  by_cases h00 : l.length = 0
  · have h01 : (l.length : Int) = 0 := by omega
    go_enter Try.func9, Try.ntmps9
    go_wp2_with (go_at_call 11; refine HA.out.mono ?_; rintro e w1 ⟨rfl, hg1⟩)
    go_ret
    exact ⟨rfl, hg1⟩
  have h01 : 1 ≤ (l.length : Int) := by omega
  by_cases h600 : 2000 < l.length
  · go_enter Try.func9, Try.ntmps9
    go_wp2_with (go_at_call 11; refine HA.out.mono ?_; rintro e w1 ⟨rfl, hg1⟩)
    go_ret
    exact ⟨rfl, hg1⟩
  by_cases ht : t = 0
  · have HT : t.toNat = 0 := by rw [ht]; rfl
    clear ht
    generalize t.toNat = tn at *
    subst HT
    go_enter Try.func9, Try.ntmps9
    go_wp2_with (go_at_call 11; refine HA.out.mono ?_; rintro e w1 ⟨rfl, hg1⟩)
    go_ret
    exact ⟨rfl, hg1⟩
  have htn : ((t.toNat : Int) == 0) = false := by
    rw [beq_eq_false_iff_ne]; intro e; apply ht; apply UInt8.toNat_inj.1; have : t.toNat = 0 := by omega
    rw [this]; rfl
  have hi : a % l.length < l.length := Nat.mod_lt _ (by omega)
  have hne : l ≠ [] := fun e => h00 (by rw [e]; rfl)
  obtain ⟨i, hii⟩ : ∃ i, a % l.length = i := ⟨_, rfl⟩
  rw [hii] at hi
  have hia : (a : Int) % (l.length : Int) = (i : Int) := by rw [← hii, Int.natCast_emod]
  have HNE := Lib.hid hne
  have HX := Lib.hid (xor_u8 l[i] t)
  have hgi : l[i]? = some l[i] := by simp [hi]
  have HGI := Lib.hid hgi
  have HDL := Lib.hid (diff_local l i (l[i] ^^^ t) hi (xor_ne ht))
  have HLS : Hid ((l.set i (l[i] ^^^ t)).length = l.length) := Lib.hid (by rw [List.length_set])
  generalize l[i] = li at *
  have hq : (i : Int) / 128 = ((i / 128 : Nat) : Int) := by omega
  have hd1 : decide ((2000 : Int) < l.length) = false := by simp; omega
  have hd2 : ((l.length : Int) == 0) = false := by simp; omega
  have HL2 : Hid (l.length ≤ 2000) := Lib.hid (by omega)
  clear hii hne ht h00 hgi
  go_enter Try.func9, Try.ntmps9
  go_wp2_with (first | (go_at_call 11; refine HA.out.mono ?_; go_must (rintro e w1 ⟨rfl, hg1⟩; have HG1 := Lib.hid hg1; clear hg1; have HE := Lib.hid (Own.lit w1 #[] [] 0 w1.heap.size rfl rfl (Nat.le_refl _) (Nat.zero_le _)))) | (at_builtin; refine app_bytes rfl _ _ rfl w1.heap.size _ _ [] l rfl rfl HE.out ((HV.out.grown HG1.out).grown (gb_alloc _ _ _)) (by simp) (by have := HL2.out; simp; omega) ?_; go_must (intro v2 w2 ho2 hg2 hf2; rw [List.nil_append] at ho2; obtain ⟨g, cap, rfl, hgB, hgs⟩ := Own.at ho2 HNE.out; have HO2 := Lib.hid ho2; have hcl := HO2.out.cellAt rfl i _ HGI.out; have hfr := HO2.out.frozenAt rfl i; have HG2 : Hid (w1.grownBy w2 none) := Lib.hid (gb_trans (gb_alloc _ _ none) hg2 (fun k hk => .inr (HE.out.lt k hk).1)); clear ho2 hg2 hf2)))
  rw [HX.out]
  obtain ⟨w3, hw3⟩ : ∃ W, W = w2.setCell ⟨g, i, none⟩ (.int .u8 ((li ^^^ t).toNat : Int)) := ⟨_, rfl⟩
  have HO3 : Hid (Own w3 w1.heap.size (.slice (some ⟨g, 0, none⟩) l.length cap) (l.set i (li ^^^ t))) := Lib.hid (by rw [hw3]; exact HO2.out.set rfl i _)
  have hg23 : w2.grownBy w3 (some g) := by rw [hw3]; exact gb_setCell _ _ _
  have HG3 : Hid (w1.grownBy w3 none) := Lib.hid (gb_trans HG2.out hg23 (fun k hk => .inr (by cases hk; omega)))
  rw [← hw3]
  clear hw3 hg23 hcl hfr
  have hd := diff_any _ _ l (l.set i (li ^^^ t)) w3 (HV.out.grown (gb_same HG1.out HG3.out)) HO3.out.rd (by rw [HLS.out]; have := HL2.out; omega)
  rw [HLS.out, HDL.out] at hd
  refine hd.mono ?_
  clear hd
  rintro e w4 ⟨cv, ps, rfl, hps, hc4, hg4⟩
  obtain ⟨p, hp1, rfl⟩ : ∃ p, p.1.1 = ((i / 128 : Nat) : Int) ∧ ps = [p] := by
    match ps, hps with
    | [p], hps => exact ⟨p, by simp at hps; rw [hps]; simp, rfl⟩
    | [], hps => simp at hps
    | _ :: _ :: _, hps => simp at hps
  obtain ⟨acv, ccv, rfl⟩ := hc4.slice
  obtain ⟨gc, oc, rfl, q0, _⟩ := hc4.rd.at (i := 0) rfl
  simp only [Nat.zero_mul, Nat.add_zero] at q0
  rw [hp1] at q0
  have r0 : (w4.alloc (Obj.cells #[.int .i64 l.length, .slice (some ⟨gc, oc, none⟩) 1 ccv] 29)).cell? ⟨gc, oc, none⟩ = some (.int .i64 ((i / 128 : Nat) : Int)) := (gb_alloc _ _ none).cell q0 (by simp)
  have HGF : Hid (w.grownBy w4 none) := Lib.hid (gb_same HG1.out (gb_same HG3.out hg4))
  clear hps hc4 hg4 q0
  generalize ((i / 128 : Nat) : Int) = iq at *
  go_wp2
  go_ret
  exact ⟨rfl, gb_same HGF.out (gb_alloc _ _ _)⟩
end Go.Proofs.Ytnkgoaloigmmfaa
