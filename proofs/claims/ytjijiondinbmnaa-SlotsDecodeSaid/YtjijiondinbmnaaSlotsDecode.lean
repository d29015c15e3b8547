/-
  law.SlotsDecode: the walk.
-/
import Derived.Test.YtjijiondinbmnaaTRHan
import Derived.Test.YtjijiondinbmnaaTArg
namespace Go.Proofs.Ytjijiondinbmnaa
open Go.RowKit

set_option maxRecDepth 100000 in
set_option maxHeartbeats 4000000 in
theorem slotsDecode_any (v : Value) (bs : List UInt8) (w : World) (h : Rd w v bs) (hv : ∀ k, v.ownBlock = some k → k < w.heap.size) : Calls Try.prog 5 #[v] w (BoolQ true w) := by
  have hsm := h.small
  have HA := Lib.hid (awake_any w)
  obtain ⟨av, cv, rfl⟩ := h.len
  have HL := Lib.hid h
  have HV := Lib.hid hv
  clear h hv
  go_enter Try.func5, Try.ntmps5
  go_wp2_with fail
  refine HA.out.mono ?_
  rintro e w1 ⟨rfl, hg1⟩
  have HG1 := Lib.hid hg1
  clear hg1
  by_cases hb : (1000 : Int) < bs.length
  · go_wp2
    go_ret
    exact ⟨rfl, HG1.out⟩
  · have hd := decode_any _ bs w1 (HL.out.grown HG1.out) (by omega)
    have hr : ∀ w2 : World, w1.grownBy w2 none → Calls Try.prog 14 #[.slice av bs.length cv] w2 (RDecP bs w2) := fun w2 hg => rdecode_any _ bs w2 ((HL.out.grown HG1.out).grown hg) (fun k e => Nat.lt_of_lt_of_le (HV.out k e) (gb_same HG1.out hg).size) (by omega)
    unfold DecP at hd
    unfold RDecP at hr
    cases hdec : decT bs with
    | none =>
      rw [hdec] at hd
      simp only [hdec] at hr
      have HD := Lib.hid hd
      have HR := Lib.hid hr
      clear hd hr
      go_wp2_with fail
      refine HD.out.mono ?_
      rintro e w2 ⟨rfl, hg2⟩
      have HR2 := Lib.hid (HR.out w2 hg2)
      have HG2 := Lib.hid (gb_same HG1.out hg2)
      clear hg2
      go_wp2_with fail
      refine HR2.out.mono ?_
      rintro e w3 ⟨rfl, hg3⟩
      have HG3 := Lib.hid (gb_same HG2.out hg3)
      clear hg3
      go_wp2
      go_ret
      exact ⟨rfl, HG3.out⟩
    | some l =>
      rw [hdec] at hd
      simp only [hdec] at hr
      obtain ⟨_, _, hok, henc⟩ := decT_enc hdec
      have HENC := Lib.hid henc
      have HOK := Lib.hid hok
      have HD := Lib.hid hd
      have HR := Lib.hid hr
      clear hd hr henc hok
      go_wp2_with fail
      refine HD.out.mono ?_
      rintro e w2 ⟨g, s, rfl, _, _, hg2, ht2⟩
      have HR2 := Lib.hid (HR.out w2 hg2)
      have HG2 := Lib.hid (gb_same HG1.out hg2)
      have HT2 := Lib.hid ht2
      clear hg2 ht2
      go_wp2_with fail
      refine HR2.out.mono ?_
      rintro e w3 ⟨s2, rfl, _, hg3, hv3⟩
      have HE := Lib.hid (encode_any (HT2.out.grown hg3))
      have HG3 := Lib.hid (gb_same HG2.out hg3)
      have HT3 := Lib.hid (HT2.out.grown hg3)
      have HV3 := Lib.hid hv3
      clear hg3 hv3
      rw [HENC.out] at HE
      go_wp2_with fail
      refine HE.out.mono ?_
      rintro e w4 ⟨v4, rfl, ho4, hg4⟩
      have HG4 := Lib.hid (gb_same HG3.out hg4)
      have HSM := Lib.hid (same_true v4 _ w4 bs ho4.rd (HL.out.grown HG4.out))
      have HHA := Lib.hid (handles_any (HT3.out.grown hg4))
      have HV4 := Lib.hid (HV3.out.grown hg4)
      clear ho4 hg4
      go_wp2_with fail
      refine HSM.out.mono ?_
      rintro e w5 ⟨rfl, rfl⟩
      go_wp2_with fail
      refine HHA.out.mono ?_
      rintro e w6 ⟨v6, rfl, ho6, hg6⟩
      have HRH := Lib.hid (rhandles_any (HV4.out.grown hg6) HOK.out)
      have HO6 := Lib.hid ho6
      have HG6 := Lib.hid (gb_same HG4.out hg6)
      clear ho6 hg6
      go_wp2_with fail
      refine HRH.out.mono ?_
      rintro e w7 ⟨v7, rfl, ho7, hg7⟩
      have hle := hsN_len l l.length
      have hll := HT3.out.len
      have HSI := Lib.hid (sameInts_true v6 v7 w7 _ ((HO6.out.grown hg7).rd) ho7.rd (by omega))
      have HG7 := Lib.hid (gb_same HG6.out hg7)
      clear ho7 hg7 hle hll
      go_wp2_with fail
      refine HSI.out.mono ?_
      rintro e w8 ⟨rfl, hg8⟩
      have HG8 := Lib.hid (gb_same HG7.out hg8)
      clear hg8
      go_wp2
      go_ret
      exact ⟨rfl, HG8.out⟩
end Go.Proofs.Ytjijiondinbmnaa
