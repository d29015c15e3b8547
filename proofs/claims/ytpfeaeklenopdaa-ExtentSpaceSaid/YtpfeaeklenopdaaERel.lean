/-
  Release of extent and of its reference: the walks.
-/
import Derived.Test.YtpfeaeklenopdaaEInts
namespace Go.Proofs.Ytpfeaeklenopdaa
open Go.RowKit Go.Shelf

def relF : List UInt8 → List Int → Except Int (List UInt8)
  | l, [] => .ok l
  | l, z :: zs => if bitI l z then relF (setB l z.toNat false) zs else .error 7
def relO (l : List UInt8) (zs : List Int) : Except Int (List UInt8) := if zs.all (hasB l) then relF l zs else .error 2
def RelP (w : World) (o : Except Int (List UInt8)) (e : Ending) (w' : World) : Prop :=
  match o with
  | .error c => e = .returned (.tuple #[.slice none 0 0, .int .i64 c]) ∧ w.grownBy w' none
  | .ok l => ∃ v', e = .returned (.tuple #[v', .int .i64 0]) ∧ Own w' w.heap.size v' l ∧ w.grownBy w' none
theorem drop_at {zs : List Int} {i : Nat} {z : Int} (h : zs[i]? = some z) : zs.drop i = z :: zs.drop (i + 1) := by
  obtain ⟨h1, h2⟩ := List.getElem?_eq_some_iff.1 h
  rw [List.drop_eq_getElem_cons h1, h2]
theorem relF_yes {l cur : List UInt8} {zs : List Int} {i : Nat} {z : Int} (h : relF l zs = relF cur (zs.drop i)) (hz : zs[i]? = some z) (hb : bitI cur z = true) : relF l zs = relF (setB cur z.toNat false) (zs.drop (i + 1)) := by
  rw [h, drop_at hz, relF, if_pos hb]
theorem relF_no {l cur : List UInt8} {zs : List Int} {i : Nat} {z : Int} (h : relF l zs = relF cur (zs.drop i)) (hz : zs[i]? = some z) (hb : bitI cur z = false) : relF l zs = .error 7 := by
  rw [h, drop_at hz, relF, if_neg (by simp [hb])]
theorem relF_end {l cur : List UInt8} {zs : List Int} (h : relF l zs = relF cur (zs.drop zs.length)) : relF l zs = .ok cur := by
  rw [h, List.drop_length, relF]
theorem relO_bad {l : List UInt8} {zs : List Int} {z : Int} (hz : z ∈ zs) (hb : hasB l z = false) : relO l zs = .error 2 := by
  unfold relO
  rw [if_neg]
  intro h
  rw [List.all_eq_true] at h
  have := h z hz
  rw [hb] at this
  cases this
theorem relO_good {l : List UInt8} {zs : List Int} (h : ∀ z ∈ zs, hasB l z = true) : relO l zs = relF l zs := by
  unfold relO
  rw [if_pos (List.all_eq_true.2 h)]
theorem hasB_spec {l : List UInt8} {z : Int} (h : hasB l z = true) : ∃ k : Nat, z = (k : Int) ∧ k < 8 * l.length := by
  unfold hasB at h
  simp only [Bool.and_eq_true, decide_eq_true_eq] at h
  exact ⟨z.toNat, by omega, by omega⟩
theorem mem_at {zs : List Int} {i : Nat} {z : Int} (h : zs[i]? = some z) : z ∈ zs := List.mem_of_getElem? h
set_option maxRecDepth 100000 in
set_option maxHeartbeats 4000000 in
theorem release_any (v zv : Value) (l : List UInt8) (zs : List Int) (w : World) (hv : Rd w v l) (hz : RdL w zv (ivs zs)) (hl : l.length ≤ 1000) (hzl : zs.length ≤ 1000000) :
    Calls Try.prog 27 #[v, zv] w (RelP w (relO l zs)) := by
  have HH := Lib.hid (fun z => has_any v l z w hv (by omega))
  have HCL := Lib.hid (clone_any v l w hv (by omega))
  have HL := Lib.hid hl
  obtain ⟨a, c, rfl⟩ := hv.len
  obtain ⟨az, cz, rfl⟩ := hz.len
  rw [ivs_len] at hz ⊢
  have HZ := Lib.hid hz
  have hzI : (zs.length : Int) ≤ 1000000 := by omega
  generalize hoo : relO l zs = oo
  have HOO := Lib.hid hoo
  clear hv hl hz hoo
  go_enter Try.func27, Try.ntmps27
  go_wp2
  go_loopw [13] (fun u wr => ∃ i : Nat, i ≤ zs.length ∧ u = .int .i64 (i : Int) ∧ Hid (∀ j z, j < i → zs[j]? = some z → hasB l z = true) ∧ w = wr) (fun u _ => zs.length - (intOf u).toNat)
  case atStart => exact ⟨0, Nat.zero_le _, rfl, Lib.hid (fun j z h => by omega), rfl⟩
  case round =>
    obtain ⟨i, hi, rfl, HAL, rfl⟩ := hrel
    by_cases hlt : i < zs.length
    · obtain ⟨z, hzz⟩ : ∃ z, zs[i]? = some z := ⟨zs[i], by simp [hlt]⟩
      obtain ⟨zg, off, rfl, hcell⟩ := HZ.out.at (j := i) (x := .int .i64 z) (by simp [ivs, hzz])
      have hiI : (i : Int) < (zs.length : Int) := by omega
      have hh := HH.out z
      cases hb : hasB l z
      · rw [hb] at hh
        have HH1 := Lib.hid hh
        have HO2 := Lib.hid (HOO.out.symm.trans (relO_bad (mem_at hzz) hb))
        clear hh hb hzz
        go_wp2_with (go_at_call 38; refine HH1.out.mono ?_; rintro e w' ⟨rfl, rfl⟩)
        go_ret2
        rw [HO2.out]
        exact ⟨rfl, gb_refl _ _⟩
      · rw [hb] at hh
        have HH1 := Lib.hid hh
        have HA2 : Hid (∀ j z, j < i + 1 → zs[j]? = some z → hasB l z = true) := Lib.hid (fun j z' h1 h2 => by
          by_cases hji : j < i
          · exact HAL.out j z' hji h2
          · obtain rfl : j = i := by omega
            rw [hzz] at h2
            cases h2
            exact hb)
        clear hh hb hzz
        go_wp2_with (go_at_call 38; refine HH1.out.mono ?_; rintro e w' ⟨rfl, rfl⟩)
        go_roundw
        case rel => exact ⟨i + 1, by omega, by go_num, HA2, trivial⟩
        case measure => simp [intOf]; omega
    · obtain rfl : i = zs.length := by omega
      have HGD : Hid (∀ z ∈ zs, hasB l z = true) := Lib.hid (fun z hz => by
        obtain ⟨j, hj⟩ := List.getElem?_of_mem hz
        exact HAL.out j z (List.getElem?_eq_some_iff.1 hj).1 hj)
      have HO2 := Lib.hid (HOO.out.symm.trans (relO_good HGD.out))
      go_wp2_with (go_at_call 39; refine HCL.out.mono ?_; go_must (rintro e w2 ⟨v2, rfl, ho2, hg2⟩; have HO3 := Lib.hid ho2; have HG3 := Lib.hid hg2; clear ho2 hg2))
      go_loopw [26] (fun u wr => ∃ (i : Nat) (cur : List UInt8), i ≤ zs.length ∧ u = .int .i64 (i : Int) ∧ Hid (cur.length = l.length) ∧ Hid (relF l zs = relF cur (zs.drop i)) ∧ Hid (Own wr w.heap.size v2 cur) ∧ Hid (w.grownBy wr none)) (fun u _ => zs.length - (intOf u).toNat)
      case atStart => exact ⟨0, l, Nat.zero_le _, rfl, Lib.hid rfl, Lib.hid rfl, HO3, HG3⟩
      case round =>
        obtain ⟨i, cur, hi, rfl, HCU, HF, HOW, HG⟩ := hrel
        by_cases hlt : i < zs.length
        · obtain ⟨z, hzz⟩ : ∃ z, zs[i]? = some z := ⟨zs[i], by simp [hlt]⟩
          obtain ⟨zg, off, rfl, hcell⟩ := (HZ.out.grown HG.out).at (j := i) (x := .int .i64 z) (by simp [ivs, hzz])
          have hiI : (i : Int) < (zs.length : Int) := by omega
          have hg := get_any v2 cur z wr HOW.out.rd (by have := HCU.out; have := HL.out; omega)
          cases hb : bitI cur z
          · rw [hb] at hg
            have HG1 := Lib.hid hg
            have HO4 := Lib.hid (HO2.out.trans (relF_no HF.out hzz hb))
            clear hg hb hzz
            go_wp2_with (go_at_call 18; refine HG1.out.mono ?_; rintro e w' ⟨rfl, rfl⟩)
            go_ret2
            rw [HO4.out]
            exact ⟨rfl, gb_same HG.out (gb_drew _ _)⟩
          · rw [hb] at hg
            have HG1 := Lib.hid hg
            have HF4 := Lib.hid (relF_yes HF.out hzz hb)
            obtain ⟨k, rfl, hk⟩ := hasB_spec (HGD.out z (mem_at hzz))
            have HP := Lib.hid (put_any v2 cur k w.heap.size false wr.drew (HOW.out.grown (gb_drew _ _)) (by have := HCU.out; have := HL.out; omega) (by have := HCU.out; omega))
            rw [Int.toNat_natCast] at HF4
            clear hg hb hzz hk
            go_wp2_with (first | (go_at_call 18; refine HG1.out.mono ?_; rintro e w' ⟨rfl, rfl⟩) | (go_at_call 40; refine HP.out.mono ?_; go_must (rintro e w5 ⟨⟨u, rfl⟩, ho5, hg5⟩; have HO5 := Lib.hid ho5; have HG5 : Hid (w.grownBy w5 none) := Lib.hid (gb_trans (gb_same HG.out (gb_drew _ _)) hg5 (fun j hj => .inr (HOW.out.lt j hj).1)); clear ho5 hg5)))
            go_roundw
            case rel => exact ⟨i + 1, setB cur k false, by omega, by go_num, Lib.hid (by rw [setB_len]; exact HCU.out), HF4, HO5, HG5⟩
            case measure => simp [intOf]; omega
        · obtain rfl : i = zs.length := by omega
          have HO4 := Lib.hid (HO2.out.trans (relF_end HF.out))
          go_wp2
          go_ret2
          rw [HO4.out]
          exact ⟨_, rfl, HOW.out, HG.out⟩
set_option maxRecDepth 100000 in
set_option maxHeartbeats 4000000 in
theorem rrelease_any (v zv : Value) (l : List UInt8) (zs : List Int) (w : World) (hv : Rd w v l) (hz : RdL w zv (ivs zs)) (hl : l.length ≤ 1000) (hzl : zs.length ≤ 1000000) (hzb : ∀ z ∈ zs, -9223372036854775808 ≤ z ∧ z ≤ 9223372036854775807) :
    Calls Try.prog 28 #[v, zv] w (RelP w (relO l zs)) := by
  have HV := Lib.hid hv
  have HL := Lib.hid hl
  have hlI : (l.length : Int) ≤ 1000 := by omega
  obtain ⟨a, c, rfl⟩ := hv.len
  obtain ⟨az, cz, rfl⟩ := hz.len
  rw [ivs_len] at hz ⊢
  have HZ := Lib.hid hz
  have HZB := Lib.hid hzb
  have hzI : (zs.length : Int) ≤ 1000000 := by omega
  have HLL : Hid (([] : List UInt8).length + l.length ≤ 140737488355328) := Lib.hid (by simp; omega)
  generalize hoo : relO l zs = oo
  have HOO := Lib.hid hoo
  clear hv hl hz hoo hzb
  go_enter Try.func28, Try.ntmps28
  go_wp2
  go_loopw [6] (fun u wr => ∃ i : Nat, i ≤ zs.length ∧ u = .int .i64 (i : Int) ∧ Hid (∀ j z, j < i → zs[j]? = some z → hasB l z = true) ∧ w = wr) (fun u _ => zs.length - (intOf u).toNat)
  case atStart => exact ⟨0, Nat.zero_le _, rfl, Lib.hid (fun j z h => by omega), rfl⟩
  case round =>
    obtain ⟨i, hi, rfl, HAL, rfl⟩ := hrel
    by_cases hlt : i < zs.length
    · obtain ⟨z, hzz⟩ : ∃ z, zs[i]? = some z := ⟨zs[i], by simp [hlt]⟩
      obtain ⟨zg, off, rfl, hcell⟩ := HZ.out.at (j := i) (x := .int .i64 z) (by simp [ivs, hzz])
      have hiI : (i : Int) < (zs.length : Int) := by omega
      have hzb := HZB.out z (mem_at hzz)
      cases hb : hasB l z
      · have HO2 := Lib.hid (HOO.out.symm.trans (relO_bad (mem_at hzz) hb))
        unfold hasB at hb
        by_cases h0 : z < 0
        · clear hb hzz
          go_wp2
          go_ret2
          rw [HO2.out]
          exact ⟨rfl, gb_refl _ _⟩
        · obtain ⟨k, rfl⟩ := Int.eq_ofNat_of_zero_le (show 0 ≤ z by omega)
          have h8 : (k : Int) / 8 ≥ (l.length : Int) := by simp at hb; omega
          clear hb hzz
          go_wp2
          go_ret2
          rw [HO2.out]
          exact ⟨rfl, gb_refl _ _⟩
      · have HA2 : Hid (∀ j z, j < i + 1 → zs[j]? = some z → hasB l z = true) := Lib.hid (fun j z' h1 h2 => by
          by_cases hji : j < i
          · exact HAL.out j z' hji h2
          · obtain rfl : j = i := by omega
            rw [hzz] at h2
            cases h2
            exact hb)
        obtain ⟨k, rfl, hk⟩ := hasB_spec hb
        have h8 : (k : Int) / 8 < (l.length : Int) := by omega
        clear hb hzz hk
        go_wp2
        go_roundw
        case rel => exact ⟨i + 1, by omega, by go_num, HA2, trivial⟩
        case measure => simp [intOf]; omega
    · obtain rfl : i = zs.length := by omega
      have HGD : Hid (∀ z ∈ zs, hasB l z = true) := Lib.hid (fun z hz => by
        obtain ⟨j, hj⟩ := List.getElem?_of_mem hz
        exact HAL.out j z (List.getElem?_eq_some_iff.1 hj).1 hj)
      have HO2 := Lib.hid (HOO.out.symm.trans (relO_good HGD.out))
      have HO := Lib.hid (Own.lit w #[] [] 0 w.heap.size rfl rfl (Nat.le_refl _) (Nat.zero_le _))
      go_wp2_with (at_builtin; refine app_bytes rfl _ _ rfl w.heap.size _ _ [] l rfl rfl HO.out (HV.out.grown (gb_alloc _ _ _)) (by simp) HLL.out ?_; go_must (intro v2 w2 ho2 hg2 hf2; rw [List.nil_append] at ho2; have HO3 := Lib.hid ho2; have HG3 : Hid (w.grownBy w2 none) := Lib.hid (gb_trans (gb_alloc _ _ none) hg2 (fun k hk => .inr (HO.out.lt k hk).1)); clear ho2 hg2 hf2))
      go_loopw [7, 8] (fun nv u wr => ∃ (i : Nat) (cur : List UInt8), i ≤ zs.length ∧ u = .int .i64 (i : Int) ∧ Hid (cur.length = l.length) ∧ Hid (relF l zs = relF cur (zs.drop i)) ∧ Hid (Own wr w.heap.size nv cur) ∧ Hid (w.grownBy wr none)) (fun _ u _ => zs.length - (intOf u).toNat)
      case atStart => exact ⟨0, l, Nat.zero_le _, rfl, Lib.hid rfl, Lib.hid rfl, HO3, HG3⟩
      case round =>
        obtain ⟨i, cur, hi, rfl, HCU, HF, HOW, HG⟩ := hrel
        obtain ⟨an, cn, hnv⟩ := HOW.out.rd.len
        subst hnv
        by_cases hlt : i < zs.length
        · obtain ⟨z, hzz⟩ : ∃ z, zs[i]? = some z := ⟨zs[i], by simp [hlt]⟩
          obtain ⟨zg, off, rfl, hcell⟩ := (HZ.out.grown HG.out).at (j := i) (x := .int .i64 z) (by simp [ivs, hzz])
          have hiI : (i : Int) < (zs.length : Int) := by omega
          obtain ⟨k, rfl, hk⟩ := hasB_spec (HGD.out z (mem_at hzz))
          have hg := rget_any _ cur (k : Int) wr HOW.out.rd (by have := HCU.out; have := HL.out; omega) (by omega) (by omega)
          cases hb : bitI cur (k : Int)
          · rw [hb] at hg
            have HG1 := Lib.hid hg
            have HO4 := Lib.hid (HO2.out.trans (relF_no HF.out hzz hb))
            clear hg hb hzz
            go_wp2_with (go_at_call 19; refine HG1.out.mono ?_; rintro e w' ⟨rfl, rfl⟩)
            go_ret2
            rw [HO4.out]
            exact ⟨rfl, HG.out⟩
          · rw [hb] at hg
            have HG1 := Lib.hid hg
            have HF4 := Lib.hid (relF_yes HF.out hzz hb)
            have HP := Lib.hid (rput_any _ cur k false wr HOW.out.rd (by have := HCU.out; have := HL.out; omega) (by have := HCU.out; omega))
            rw [Int.toNat_natCast] at HF4
            clear hg hb hzz hk
            go_wp2_with (first | (go_at_call 19; refine HG1.out.mono ?_; rintro e w' ⟨rfl, rfl⟩) | (go_at_call 41; refine HP.out.mono ?_; go_must (rintro e w5 ⟨v5, rfl, ho5, hg5⟩; have HO5 : Hid (Own w5 w.heap.size v5 (setB cur k false)) := Lib.hid (ho5.mono HG.out.size); have HG5 : Hid (w.grownBy w5 none) := Lib.hid (gb_same HG.out hg5); clear ho5 hg5)))
            go_roundw
            case rel => exact ⟨i + 1, setB cur k false, by omega, by go_num, Lib.hid (by rw [setB_len]; exact HCU.out), HF4, HO5, HG5⟩
            case measure => simp [intOf]; omega
        · obtain rfl : i = zs.length := by omega
          have HO4 := Lib.hid (HO2.out.trans (relF_end HF.out))
          go_wp2
          go_ret2
          rw [HO4.out]
          exact ⟨_, rfl, HOW.out, HG.out⟩
end Go.Proofs.Ytpfeaeklenopdaa
