/-
  law.RingDecode: the walk.
-/
import Derived.Test.YtjidkaeglhfajaaRRD
import Derived.Test.YtjidkaeglhfajaaRBy
namespace Go.Proofs.Ytjidkaeglhfajaa
open Go.RowKit Go.Shelf

/-- the program's message queue, or none -/
def QMS (w : World) (S : Nat) (qv : Value) : Option (Nat × List Mg) → Prop
  | none => qv = .pointer none
  | some r => ∃ g B v ps, qv = .pointer (some ⟨g, 0, none⟩) ∧ S ≤ g ∧ S ≤ B ∧ B ≤ w.heap.size ∧ IsM w B g r.1 v ps ∧ ps.map (·.1) = r.2
theorem QMS.grown {w w' : World} {S : Nat} {qv : Value} {o : Option (Nat × List Mg)} (h : QMS w S qv o) (hg : w.grownBy w' none) : QMS w' S qv o := by
  cases o with
  | none => exact h
  | some r =>
    obtain ⟨g, B, v, ps, h1, h2, h3, h4, h5, h6⟩ := h
    exact ⟨g, B, v, ps, h1, h2, h3, Nat.le_trans h4 hg.size, h5.grown hg, h6⟩
theorem decM_all (v : Value) (bs : List UInt8) (w : World) (h : Rd w v bs) (hb : bs.length ≤ 100000) : Calls Try.prog 33 #[v] w fun e w' => ∃ qv, e = .returned (.tuple #[qv, .int .i64 (cdM (decM bs))]) ∧ w.grownBy w' none ∧ QMS w' w.heap.size qv (decM bs) := by
  refine (decodeM_any v bs w h hb).mono ?_
  intro e w' hd
  unfold DecMP at hd
  cases hq : decM bs with
  | none =>
    rw [hq] at hd
    obtain ⟨rfl, hg⟩ := hd
    exact ⟨_, rfl, hg, rfl⟩
  | some r =>
    rw [hq] at hd
    obtain ⟨g, B, u, ps, rfl, h1, h2, h3, h4, h5, h6⟩ := hd
    exact ⟨_, rfl, h4, g, B, u, ps, rfl, h1, h2, h3, h5, h6⟩
set_option maxRecDepth 100000 in
set_option maxHeartbeats 4000000 in
theorem ringDecode_any (v : Value) (bs : List UInt8) (w : World) (hb : Rd w v bs) (hbl : ∀ k, v.ownBlock = some k → k < w.heap.size) : Calls Try.prog 7 #[v] w fun e w' => e = .returned (.bool true) ∧ w.grownBy w' none := by
  have HA := Lib.hid (awake_any w)
  obtain ⟨ab, cb, rfl⟩ := hb.len
  have HBV := Lib.hid hb
  have HBL := Lib.hid hbl
  clear hb hbl
  by_cases hlb : 1000 < bs.length
  · have hlb' : (1000 : Int) < (bs.length : Int) := by omega
    clear hlb
    go_enter Try.func7, Try.ntmps7
    go_wp2_with fail
    refine HA.out.mono ?_
    rintro e w1 ⟨rfl, hg1⟩
    have HG1 := Lib.hid hg1
    clear hg1
    go_wp2
    go_ret
    exact ⟨rfl, HG1.out⟩
  · have hlb' : ¬ (1000 : Int) < (bs.length : Int) := by omega
    have HLB : Hid (bs.length ≤ 1000) := Lib.hid (by omega)
    clear hlb
    go_enter Try.func7, Try.ntmps7
    go_wp2_with fail
    refine HA.out.mono ?_
    rintro e w1 ⟨rfl, hg1⟩
    have HG1 := Lib.hid hg1
    have HV1 := Lib.hid (HBV.out.grown hg1)
    have HL1 : Hid (∀ k, (Value.slice ab bs.length cb).ownBlock = some k → k < w1.heap.size) := Lib.hid (fun k hk => Nat.lt_of_lt_of_le (HBL.out k hk) hg1.size)
    clear hg1
    go_wp2_with fail
    refine (decB_all _ bs w1 HV1.out (by have := HLB.out; omega)).mono ?_
    rintro e w2 ⟨qv, rfl, hg2, hq2⟩
    have HG2 := Lib.hid (gb_same HG1.out hg2)
    have HV2 := Lib.hid (HV1.out.grown hg2)
    have HL2 : Hid (∀ k, (Value.slice ab bs.length cb).ownBlock = some k → k < w2.heap.size) := Lib.hid (fun k hk => Nat.lt_of_lt_of_le (HL1.out k hk) hg2.size)
    have HQ2 := Lib.hid hq2
    clear hg2 hq2
    generalize hev : codeO 4 (decB bs) = ev
    have HEV := Lib.hid hev
    go_wp2_with fail
    refine (rdecB_all _ bs w2 HV2.out (by have := HLB.out; omega) HL2.out).mono ?_
    rintro e w3 ⟨m3, a3, k3, c3, rfl, hg3, _⟩
    rw [hev]
    have HG3 := Lib.hid (gb_same HG2.out hg3)
    have HV3 := Lib.hid (HV2.out.grown hg3)
    have HL3 : Hid (∀ k, (Value.slice ab bs.length cb).ownBlock = some k → k < w3.heap.size) := Lib.hid (fun k hk => Nat.lt_of_lt_of_le (HL2.out k hk) hg3.size)
    have HQ3 := Lib.hid (HQ2.out.grown hg3)
    have HZB := Lib.hid (heap_at_alloc w3 (.cells #[.int .i64 0, .slice none 0 0] 31))
    clear hg3 hev
    go_wp2_with ((with_reducible refine is_store 31 5 24 ?_); go_must (refine st_row 31 5 24 w3.heap.size _ #[.int .i64 (m3 : Int), .slice a3 k3 c3] _ rfl rfl HZB.out bsize rfl rfl ?_; intro w4 hb4 hg4; have HG34 := Lib.hid (gb_new (gb_alloc w3 (.cells #[.int .i64 0, .slice none 0 0] 31) none) hg4 (Nat.le_refl _)); clear hb4 hg4))
    have HG4 := Lib.hid (gb_same HG3.out HG34.out)
    have HV4 := Lib.hid (HV3.out.grown HG34.out)
    have HL4 : Hid (∀ k, (Value.slice ab bs.length cb).ownBlock = some k → k < w4.heap.size) := Lib.hid (fun k hk => Nat.lt_of_lt_of_le (HL3.out k hk) HG34.out.size)
    have HQ4 := Lib.hid (HQ3.out.grown HG34.out)
    refine (decM_all _ bs w4 HV4.out (by have := HLB.out; omega)).mono ?_
    rintro e w5 ⟨pv, rfl, hg5, hp5⟩
    have HG5 := Lib.hid (gb_same HG4.out hg5)
    have HV5 := Lib.hid (HV4.out.grown hg5)
    have HL5 : Hid (∀ k, (Value.slice ab bs.length cb).ownBlock = some k → k < w5.heap.size) := Lib.hid (fun k hk => Nat.lt_of_lt_of_le (HL4.out k hk) hg5.size)
    have HQ5 := Lib.hid (HQ4.out.grown hg5)
    have HP5 := Lib.hid hp5
    clear hg5 hp5
    generalize hfv : cdM (decM bs) = fv
    have HFV := Lib.hid hfv
    go_wp2_with fail
    refine (rdecodeM_any _ bs w5 HV5.out (by have := HLB.out; omega) HL5.out).mono ?_
    rintro e w6 ⟨x6, a6, k6, c6, rfl, hg6⟩
    rw [hfv]
    have HG6 := Lib.hid (gb_same HG5.out hg6)
    have HV6 := Lib.hid (HV5.out.grown hg6)
    have HQ6 := Lib.hid (HQ5.out.grown hg6)
    have HP6 := Lib.hid (HP5.out.grown hg6)
    have HZ6 := Lib.hid (heap_at_alloc w6 (.cells #[.int .i64 0, .slice none 0 0] 58))
    clear hg6 hfv
    go_upto_if 57 with ((with_reducible refine is_store 58 9 34 ?_); go_must (refine st_row 58 9 34 w6.heap.size _ #[.int .i64 x6, .slice a6 k6 c6] _ rfl rfl HZ6.out refqsize rfl rfl ?_; intro w7 hb7 hg7; have HG67 := Lib.hid (gb_new (gb_alloc w6 (.cells #[.int .i64 0, .slice none 0 0] 58) none) hg7 (Nat.le_refl _)); clear hb7 hg7))
    have HG7 := Lib.hid (gb_same HG6.out HG67.out)
    have HV7 := Lib.hid (HV6.out.grown HG67.out)
    have HQ7 := Lib.hid (HQ6.out.grown HG67.out)
    have HP7 := Lib.hid (HP6.out.grown HG67.out)
    cases hB : decB bs with
    | none =>
      rw [hB] at HQ7 HEV
      have hqv : qv = .pointer none := HQ7.out
      have hev : ev = 4 := HEV.out.symm
      subst hqv hev
      clear hB HEV HQ7
      cases hM : decM bs with
      | none =>
        rw [hM] at HP7 HFV
        have hpv : pv = .pointer none := HP7.out
        have hfv : fv = 4 := HFV.out.symm
        subst hpv hfv
        clear hM HFV HP7
        go_wp2
        go_simp
        go_wp2
        go_ret
        exact ⟨rfl, HG7.out⟩
      | some r =>
        obtain ⟨nm, lm⟩ := r
        rw [hM] at HP7 HFV
        obtain ⟨gm, Bm, vm, ps, rfl, hgm, hBm, hBz, hmm, hme⟩ := HP7.out
        have he := decM_enc hM
        have HM : Hid (IsM w7 Bm gm nm vm ps ∧ ∀ p ∈ ps, OkMg p.1) := Lib.hid ⟨hmm, fun p hp => he.2.1 p.1 (by rw [show lm = ps.map (·.1) from hme.symm]; exact List.mem_map.2 ⟨p, hp, rfl⟩)⟩
        have HME : Hid (encMs nm (ps.map (·.1)) = bs) := Lib.hid (by rw [show ps.map (·.1) = lm from hme]; exact he.1)
        have hfv : fv = 0 := HFV.out.symm
        subst hfv
        clear hgm hBm hBz hmm hme he hM HFV HP7
        go_wp2_with fail
        go_simp
        go_wp2_with fail
        refine (encodeM_any HM.out.1 HM.out.2).mono ?_
        rintro e u3 ⟨x3, rfl, ho3, hg3⟩
        rw [HME.out] at ho3
        have HX3 := Lib.hid ho3.rd
        have HGC := Lib.hid (gb_same HG7.out hg3)
        have HVC := Lib.hid (HV7.out.grown hg3)
        clear ho3 hg3
        go_wp2_with fail
        refine (same_gW _ _ u3 bs HX3.out.w HVC.out.w).mono ?_
        rintro e u4 ⟨rfl, hg4⟩
        have HGD := Lib.hid (gb_same HGC.out hg4)
        clear hg4
        go_wp2
        go_ret
        exact ⟨rfl, HGD.out⟩
    | some r =>
      obtain ⟨n, l⟩ := r
      rw [hB] at HQ7 HEV
      obtain ⟨g, s, f, cs, rfl, hgg, _, hbb⟩ := HQ7.out
      have HB := Lib.hid hbb
      have HBE := Lib.hid (decB_enc hB).2.2.2
      have hev : ev = 0 := HEV.out.symm
      subst hev
      clear hgg hbb hB HEV HQ7
      cases hM : decM bs with
      | none =>
        rw [hM] at HP7 HFV
        have hpv : pv = .pointer none := HP7.out
        have hfv : fv = 4 := HFV.out.symm
        subst hpv hfv
        clear hM HFV HP7
        go_wp2_with fail
        refine (encodeB_any HB.out).mono ?_
        rintro e u1 ⟨x1, rfl, ho1, hg1⟩
        rw [HBE.out] at ho1
        have HX1 := Lib.hid ho1.rd
        have HGA := Lib.hid (gb_same HG7.out hg1)
        have HVA := Lib.hid (HV7.out.grown hg1)
        clear ho1 hg1
        go_wp2_with fail
        refine (same_gW _ _ u1 bs HX1.out.w HVA.out.w).mono ?_
        rintro e u2 ⟨rfl, hg2⟩
        have HGB := Lib.hid (gb_same HGA.out hg2)
        have HVB := Lib.hid (HVA.out.grown hg2)
        clear hg2
        go_wp2
        go_ret
        exact ⟨rfl, HGB.out⟩
      | some r =>
        obtain ⟨nm, lm⟩ := r
        rw [hM] at HP7 HFV
        obtain ⟨gm, Bm, vm, ps, rfl, hgm, hBm, hBz, hmm, hme⟩ := HP7.out
        have he := decM_enc hM
        have HM : Hid (IsM w7 Bm gm nm vm ps ∧ ∀ p ∈ ps, OkMg p.1) := Lib.hid ⟨hmm, fun p hp => he.2.1 p.1 (by rw [show lm = ps.map (·.1) from hme.symm]; exact List.mem_map.2 ⟨p, hp, rfl⟩)⟩
        have HME : Hid (encMs nm (ps.map (·.1)) = bs) := Lib.hid (by rw [show ps.map (·.1) = lm from hme]; exact he.1)
        have hfv : fv = 0 := HFV.out.symm
        subst hfv
        clear hgm hBm hBz hmm hme he hM HFV HP7
        go_wp2_with fail
        refine (encodeB_any HB.out).mono ?_
        rintro e u1 ⟨x1, rfl, ho1, hg1⟩
        rw [HBE.out] at ho1
        have HX1 := Lib.hid ho1.rd
        have HGA := Lib.hid (gb_same HG7.out hg1)
        have HVA := Lib.hid (HV7.out.grown hg1)
        have HM1 : Hid (IsM u1 Bm gm nm vm ps ∧ ∀ p ∈ ps, OkMg p.1) := Lib.hid ⟨HM.out.1.grown hg1, HM.out.2⟩
        clear ho1 hg1
        go_wp2_with fail
        refine (same_gW _ _ u1 bs HX1.out.w HVA.out.w).mono ?_
        rintro e u2 ⟨rfl, hg2⟩
        have HGB := Lib.hid (gb_same HGA.out hg2)
        have HVB := Lib.hid (HVA.out.grown hg2)
        have HM2 : Hid (IsM u2 Bm gm nm vm ps ∧ ∀ p ∈ ps, OkMg p.1) := Lib.hid ⟨HM1.out.1.grown hg2, HM1.out.2⟩
        clear hg2
        go_wp2_with fail
        refine (encodeM_any HM2.out.1 HM2.out.2).mono ?_
        rintro e u3 ⟨x3, rfl, ho3, hg3⟩
        rw [HME.out] at ho3
        have HX3 := Lib.hid ho3.rd
        have HGC := Lib.hid (gb_same HGB.out hg3)
        have HVC := Lib.hid (HVB.out.grown hg3)
        clear ho3 hg3
        go_wp2_with fail
        refine (same_gW _ _ u3 bs HX3.out.w HVC.out.w).mono ?_
        rintro e u4 ⟨rfl, hg4⟩
        have HGD := Lib.hid (gb_same HGC.out hg4)
        clear hg4
        go_wp2
        go_ret
        exact ⟨rfl, HGD.out⟩
end Go.Proofs.Ytjidkaeglhfajaa
