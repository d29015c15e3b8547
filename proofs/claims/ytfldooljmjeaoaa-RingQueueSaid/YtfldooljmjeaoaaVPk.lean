/-
  The reference's reader: peek.
-/
import Derived.Test.YtfldooljmjeaoaaVPm
import Derived.Deep.CutBlock
namespace Go.Proofs.Ytfldooljmjeaoaa
open Go.RowKit Go.Shelf

theorem pk_wrap {H : Nat} (h : H < 9223372036854775808) : wrap64 (H : Int) = (H : Int) := by
  have h2 := Int.ofNat_lt.2 h
  unfold wrap64; omega
theorem pk_int {H : Nat} (h : H < 9223372036854775808) : (H : Int) ≤ 9223372036854775807 := by
  have h2 := Int.ofNat_lt.2 h
  omega
theorem pk_neg1 {H : Nat} (h : H < 9223372036854775808) : wrap64 (-(H : Int)) = -(H : Int) := by
  have h2 := Int.ofNat_lt.2 h
  unfold wrap64; omega
theorem pk_neg2 {H : Nat} (h : H < 9223372036854775808) : wrap64 (-(H : Int) - 1) = -(H : Int) - 1 := by
  have h2 := Int.ofNat_lt.2 h
  unfold wrap64; omega
theorem pk_fin {bs : List UInt8} {p k U2 H2 d : Nat} {x : UInt8} (hx : bs[p + k]? = some x) (hd : x.toNat = d) (hs : ¬ 128 ≤ d) (hb : ∀ j y, j < k → bs[p + j]? = some y → 128 ≤ y.toNat) (hpk : p + k < bs.length)
    (hU : U2 = acc (bs.drop p) (k + 1) % 18446744073709551616) (hH : H2 = U2 / 2 ∧ H2 < 9223372036854775808) :
    ∃ v, v = unzz U2 ∧ (U2 % 2 = 1 → -(H2 : Int) - 1 = v) ∧ (¬ U2 % 2 = 1 → (H2 : Int) = v) ∧ OkI v ∧ (enc v).length ≤ 10 ∧ (((enc v).length = k + 1 ∧ beg bs p (enc v) = true) → rdInt bs p = some (v, p + (enc v).length)) ∧ (¬ ((enc v).length = k + 1 ∧ beg bs p (enc v) = true) → rdInt bs p = none) := by
  have hpy := peek_yes hx (by rw [hd]; omega) hb hpk (unzz U2) (by rw [hU])
  refine ⟨unzz U2, rfl, fun h => ?_, fun h => ?_, hpy.1, (enc_len _).2, hpy.2.1, hpy.2.2⟩
  · rw [hH.1]; unfold unzz; rw [if_neg (by omega)]
  · rw [hH.1]; unfold unzz; rw [if_pos (by omega)]


def PkP (bs : List UInt8) (p : Nat) (w : World) (e : Ending) (w' : World) : Prop :=
  ∃ (v : Int) (ok : Bool), e = .returned (.tuple #[.int .i64 v, .bool ok]) ∧ OkI v ∧ w.grownBy w' none ∧ (ok = true → rdInt bs p = some (v, p + (enc v).length)) ∧ (ok = false → rdInt bs p = none)
set_option maxRecDepth 100000 in
set_option maxHeartbeats 4000000 in
theorem rpeek_any (b : Nat) (sl : Value) (bs : List UInt8) (p : Nat) (f : Bool) (w : World) (h : IsQ w b sl bs p f) : Calls Try.prog 55 #[.pointer (some ⟨b, 0, none⟩)] w (PkP bs p w) := by
  obtain ⟨a, c, rfl⟩ := h.rd.len
  have c0 := h.c0
  have c1 := h.c1
  have hle := h.le
  have hsm := h.sm
  have H := Lib.hid h
  clear h
  go_enter Try.func55, Try.ntmps55
  go_wp2
  go_loopw [4, 5, 6] (fun u q i wr => ∃ (k U P : Nat), k ≤ 10 ∧ i = .int .i64 k ∧ u = .int .u64 (U : Int) ∧ q = .int .u64 (P : Int) ∧ Hid (U = acc (bs.drop p) k % 18446744073709551616 ∧ P = 128 ^ k % 18446744073709551616) ∧ Hid (∀ j y, j < k → bs[p + j]? = some y → 128 ≤ y.toNat) ∧ Hid (w.grownBy wr none)) (fun _ _ i _ => 10 - (intOf i).toNat)
  case atStart => exact ⟨0, 0, 1, by omega, rfl, rfl, rfl, Lib.hid ⟨rfl, rfl⟩, Lib.hid (by simp), Lib.hid (gb_refl _ _)⟩
  case round =>
    obtain ⟨k, U, P, hk, rfl, rfl, rfl, HU, HB, HG⟩ := hrel
    have d0 := HG.out.cell c0 (by simp)
    have d1 := HG.out.cell c1 (by simp)
    by_cases h10 : k < 10
    · have h10' : (k : Int) < 10 := by omega
      by_cases hpk : p + k < bs.length
      · have hpk' : (p : Int) + (k : Int) < (bs.length : Int) := by omega
        obtain ⟨x, hx⟩ : ∃ x, bs[p + k]? = some x := ⟨_, List.getElem?_eq_getElem hpk⟩
        obtain ⟨gx, ox, rfl, rx⟩ := Rd.at (H.out.rd.grown HG.out) hx
        have HX := Lib.hid hx
        have HUL := Lib.hid (show U < 18446744073709551616 from by rw [HU.out.1]; exact Nat.mod_lt _ (by omega))
        have HPL := Lib.hid (show P < 18446744073709551616 from by rw [HU.out.2]; exact Nat.mod_lt _ (by omega))
        obtain ⟨d, hd⟩ : ∃ d, x.toNat = d := ⟨_, rfl⟩
        have hd256 : d < 256 := by rw [← hd]; exact x.toNat_lt
        rw [hd] at rx
        have HD := Lib.hid hd
        clear hx c0 c1 hd
        go_wp2
        go_quiet (fail)
        go_wp2
        go_quiet (fail)
        obtain ⟨M, hM⟩ : ∃ M : Nat, M = d % 128 * P % 18446744073709551616 := ⟨_, rfl⟩
        obtain ⟨U2, hU2⟩ : ∃ U2 : Nat, U2 = (U + M) % 18446744073709551616 := ⟨_, rfl⟩
        obtain ⟨P2, hP2⟩ : ∃ P2 : Nat, P2 = P * 128 % 18446744073709551616 := ⟨_, rfl⟩
        have f1 : IntKind.u64.wrap ((d : Int) % 128 * (P : Int)) = (M : Int) := by rw [IntKind.wrap_u64, hM, Int.natCast_emod, Int.natCast_mul, Int.natCast_emod]; rfl
        have f2 : IntKind.u64.wrap ((U : Int) + (M : Int)) = (U2 : Int) := by rw [IntKind.wrap_u64, hU2]; omega
        have f3 : IntKind.u64.wrap ((P : Int) * 128) = (P2 : Int) := by rw [IntKind.wrap_u64, hP2]; omega
        have HST : Hid (U2 = acc (bs.drop p) (k + 1) % 18446744073709551616 ∧ P2 = 128 ^ (k + 1) % 18446744073709551616) := Lib.hid (by
          obtain ⟨e1, e2⟩ := HU.out
          refine ⟨?_, by rw [hP2, e2, Nat.pow_succ, Nat.mod_mul_mod]⟩
          rw [acc_step HX.out, HD.out, hU2, hM, e1, e2, Nat.mul_mod_mod, ← Nat.add_mod])
        have HU2L : Hid (U2 < 18446744073709551616) := Lib.hid (by rw [hU2]; exact Nat.mod_lt _ (by omega))
        clear hM hU2 hP2
        by_cases h128 : 128 ≤ d
        · have HB2 : Hid (∀ j y, j < k + 1 → bs[p + j]? = some y → 128 ≤ y.toNat) := Lib.hid (fun j y hj hy => by
            by_cases hjk : j = k
            · subst hjk; rw [HX.out] at hy; cases hy; rw [HD.out]; exact h128
            · exact HB.out j y (by omega) hy)
          go_wp2
          go_roundw
          case rel => exact ⟨k + 1, U2, P2, by omega, by go_num, rfl, rfl, HST, HB2, Lib.hid (gb_same HG.out (gb_drewN _ _ _))⟩
          case measure => simp [intOf]; omega
        · have h128' : (d : Int) < 128 := by omega
          clear f3
          obtain ⟨H2, hH2⟩ : ∃ H2 : Nat, H2 = U2 / 2 := ⟨_, rfl⟩
          have hU2l := HU2L.out
          have g1 : IntKind.u64.wrap ((U2 : Int) / 2) = (H2 : Int) := by rw [IntKind.wrap_u64, hH2]; omega
          have g2 : wrap64 (H2 : Int) = (H2 : Int) := by unfold wrap64; omega
          have hh3 : H2 < 9223372036854775808 := by rw [hH2]; exact Nat.div_lt_of_lt_mul hU2l
          have HH2 := Lib.hid (And.intro hH2 hh3)
          clear hU2l hH2 hh3 g2
          go_upto_region 11 with fail
          obtain ⟨v, hv, hv1, hv2, hvok, hvl, hy1, hy2⟩ := pk_fin HX.out HD.out h128 HB.out hpk HST.out.1 HH2.out
          have hn1 := Lib.hid (pk_int HH2.out.2)
          rw [pk_wrap HH2.out.2]
          have HV := Lib.hid (And.intro hv1 hv2)
          have HY := Lib.hid (And.intro hy1 hy2)
          have HOK := Lib.hid hvok
          clear hv hv1 hv2 hvok hy1 hy2 f1 f2 g1
          by_cases hodd : U2 % 2 = 1
          · have ho : ((U2 : Int) % 2 == 1) = true := by rw [beq_iff_eq]; omega
            have HVV := Lib.hid (HV.out.1 hodd)
            clear hodd
            go_upto_region 13 with fail
            rw [pk_neg1 HH2.out.2, pk_neg2 HH2.out.2, HVV.out]
            have HI1 := Lib.hid (fun (X : World) => rInt_any v X HOK.out)
            by_cases hL : (enc v).length = k + 1
            · have hL' : (((enc v).length : Int) == (k : Int) + 1) = true := by rw [beq_iff_eq]; omega
              go_wp2_with fail
              refine (HI1.out _).mono ?_
              rintro e w3 ⟨v3, rfl, ho3, hg3⟩
              obtain ⟨a3, c3, rfl⟩ := ho3.rd.len
              have HG3 := Lib.hid (gb_same (gb_same HG.out (gb_drewN _ _ _)) hg3)
              clear ho3 hg3
              go_wp2_with fail
              refine (HI1.out _).mono ?_
              rintro e w4 ⟨v4, rfl, ho4, hg4⟩
              have HG4 := Lib.hid (gb_same HG3.out hg4)
              have HBE := Lib.hid (begins_any b _ v4 bs (enc v) p f w4 (H.out.grown HG4.out) ho4.rd (by omega))
              clear ho4 hg4
              go_wp2_with fail
              refine HBE.out.mono ?_
              rintro e w5 ⟨rfl, hg5⟩
              have HG5 := Lib.hid (gb_same HG4.out hg5)
              clear hg5
              go_wp2
              go_ret2
              refine ⟨v, _, rfl, HOK.out, HG5.out, fun e => HY.out.1 ⟨hL, e⟩, fun e => HY.out.2 (fun e2 => by rw [e2.2] at e; cases e)⟩
            · have hL' : (((enc v).length : Int) == (k : Int) + 1) = false := by rw [beq_eq_false_iff_ne]; omega
              go_wp2_with fail
              refine (HI1.out _).mono ?_
              rintro e w3 ⟨v3, rfl, ho3, hg3⟩
              obtain ⟨a3, c3, rfl⟩ := ho3.rd.len
              have HG3 := Lib.hid (gb_same (gb_same HG.out (gb_drewN _ _ _)) hg3)
              clear ho3 hg3
              go_wp2
              go_ret2
              refine ⟨v, _, rfl, HOK.out, HG3.out, (fun e => by cases e), fun _ => HY.out.2 (fun e2 => hL e2.1)⟩
          · have ho : ((U2 : Int) % 2 == 1) = false := by rw [beq_eq_false_iff_ne]; omega
            have HVV := Lib.hid (HV.out.2 hodd)
            clear hodd
            go_upto_region 13 with fail
            rw [HVV.out]
            have HI1 := Lib.hid (fun (X : World) => rInt_any v X HOK.out)
            by_cases hL : (enc v).length = k + 1
            · have hL' : (((enc v).length : Int) == (k : Int) + 1) = true := by rw [beq_iff_eq]; omega
              go_wp2_with fail
              refine (HI1.out _).mono ?_
              rintro e w3 ⟨v3, rfl, ho3, hg3⟩
              obtain ⟨a3, c3, rfl⟩ := ho3.rd.len
              have HG3 := Lib.hid (gb_same (gb_same HG.out (gb_drewN _ _ _)) hg3)
              clear ho3 hg3
              go_wp2_with fail
              refine (HI1.out _).mono ?_
              rintro e w4 ⟨v4, rfl, ho4, hg4⟩
              have HG4 := Lib.hid (gb_same HG3.out hg4)
              have HBE := Lib.hid (begins_any b _ v4 bs (enc v) p f w4 (H.out.grown HG4.out) ho4.rd (by omega))
              clear ho4 hg4
              go_wp2_with fail
              refine HBE.out.mono ?_
              rintro e w5 ⟨rfl, hg5⟩
              have HG5 := Lib.hid (gb_same HG4.out hg5)
              clear hg5
              go_wp2
              go_ret2
              refine ⟨v, _, rfl, HOK.out, HG5.out, fun e => HY.out.1 ⟨hL, e⟩, fun e => HY.out.2 (fun e2 => by rw [e2.2] at e; cases e)⟩
            · have hL' : (((enc v).length : Int) == (k : Int) + 1) = false := by rw [beq_eq_false_iff_ne]; omega
              go_wp2_with fail
              refine (HI1.out _).mono ?_
              rintro e w3 ⟨v3, rfl, ho3, hg3⟩
              obtain ⟨a3, c3, rfl⟩ := ho3.rd.len
              have HG3 := Lib.hid (gb_same (gb_same HG.out (gb_drewN _ _ _)) hg3)
              clear ho3 hg3
              go_wp2
              go_ret2
              refine ⟨v, _, rfl, HOK.out, HG3.out, (fun e => by cases e), fun _ => HY.out.2 (fun e2 => hL e2.1)⟩
      · have hpk' : ¬ (p : Int) + (k : Int) < (bs.length : Int) := by omega
        have HNO := Lib.hid (peek_no HB.out (.inr (by omega)))
        clear c0 c1
        go_wp2
        go_quiet (fail)
        go_wp2
        go_ret2
        exact ⟨0, false, rfl, by simp [OkI], gb_same HG.out (gb_drewN _ _ _), (fun e => by cases e), fun _ => HNO.out⟩
    · obtain rfl : k = 10 := by omega
      have HNO := Lib.hid (peek_no HB.out (.inl rfl))
      clear c0 c1 d0 d1
      go_wp2
      go_quiet (fail)
      go_wp2
      go_ret2
      exact ⟨0, false, rfl, by simp [OkI], gb_same HG.out (gb_drewN _ _ _), (fun e => by cases e), fun _ => HNO.out⟩
end Go.Proofs.Ytfldooljmjeaoaa
