/-
  The reference's Taken and Recover: the walks.
-/
import Derived.Test.YtfdkmncjcehdkaaURWr
import Derived.Test.YtfdkmncjcehdkaaUMath
namespace Go.Proofs.Ytfdkmncjcehdkaa
open Go.RowKit

set_option maxRecDepth 100000 in
set_option maxHeartbeats 2000000 in
theorem rtaken_any (v dv : Value) (l : List UInt8) (r : RT) (w : World) (hv : Rd w v l) (hd : RdW w dv r.2.2) (hok : okR r = true) (hl : l.length ≤ 1099511627776) :
    Calls Try.prog 41 #[v, .agg #[.int .i64 r.1, .int .i64 r.2.1, dv]] w (OwnP w (takeR l r)) := by
  obtain ⟨hL0, hL1, ho0, ho1⟩ := okR_spec hok
  obtain ⟨o, L, od⟩ := r
  simp only at *
  obtain ⟨L, rfl⟩ := Int.eq_ofNat_of_zero_le hL0
  obtain ⟨o, rfl⟩ := Int.eq_ofNat_of_zero_le ho0
  rw [Int.toNat_natCast] at hL1 ho1
  rw [Int.toNat_natCast] at ho1
  obtain ⟨a, c, rfl⟩ := hv.len
  obtain ⟨ad, cd, rfl⟩ := hd.len
  obtain ⟨w1, hw1⟩ : ∃ w1, w.alloc (.cells #[.int .i64 (o : Int), .int .i64 (L : Int), .slice ad od.length cd] 69) = w1 := ⟨_, rfl⟩
  have hb1 : w1.heap[w.heap.size]? = some (.cells #[.int .i64 (o : Int), .int .i64 (L : Int), .slice ad od.length cd] 69 (0, 0)) := by rw [← hw1]; exact heap_at_alloc _ _
  have hg1 : w.grownBy w1 none := by rw [← hw1]; exact gb_alloc _ _ _
  have s0 : w1.drew.cell? ⟨w.heap.size, 0, none⟩ = some (.int .i64 o) := cell_row (w := w1) hb1
  have s1 : w1.drew.cell? ⟨w.heap.size, 1, none⟩ = some (.int .i64 L) := cell_row (w := w1) hb1
  have s2 : w1.drew.cell? ⟨w.heap.size, 2, none⟩ = some (.slice ad od.length cd) := cell_row (w := w1) hb1
  have HS1 := Lib.hid (rsized_any _ l L w1.drew ((hv.grown hg1).grown (gb_drew _ _)) hl hL1)
  have HW1 := Lib.hid hw1
  have HG1 := Lib.hid hg1
  have HD := Lib.hid hd
  have HO1 := Lib.hid ho1
  have HL1 := Lib.hid hL1
  have HTR : Hid (takeR l ((o : Int), (L : Int), od) = putAt (sized l L) o od) := Lib.hid rfl
  clear hw1 hb1 hg1 hv hd hok hL0 ho0 ho1
  go_enter Try.func41, Try.ntmps41
  go_wp2_with fail
  rw [HW1.out]
  refine region_KL (fuel := 10) (listed := #[false, false, false, false, false, false, false, false, false, false]) (fun W => W.cell? ⟨w.heap.size, 1, none⟩ = some (.int .i64 L) ∧ W.cell? ⟨w.heap.size, 0, none⟩ = some (.int .i64 o) ∧ W.cell? ⟨w.heap.size, 2, none⟩ = some (.slice ad od.length cd)) 9 (by kernel_rfl) rfl (by kernel_rfl) ?_
  have HS0 := And.intro s1 (And.intro s0 s2)
  refine wpAnyK_takeL (i := 0) (d := 5) (v := ?_) (T' := ?_) (listed' := #[true, false, false, false, false, false, false, false, false, false]) rfl rfl (by kernel_rfl) (fun _ _ _ h => h) rfl (Or.inl ⟨by rfl, ?_⟩) ?_ HS0 ?_
  rotate_left 2
  · intro w hS; clear hS; go_simp; rfl
  · simp only [List.setIfInBounds_toArray, List.set_cons_succ, List.set_cons_zero]; rfl
  refine wpAnyK_takeL (i := 1) (d := 6) (v := ?_) (T' := ?_) (listed' := #[true, true, false, false, false, false, false, false, false, false]) rfl rfl (by kernel_rfl) (fun _ _ _ h => h) rfl (Or.inl ⟨by rfl, ?_⟩) ?_ HS0 ?_
  rotate_left 2
  · intro w hS; clear hS; go_simp; rfl
  · simp only [List.setIfInBounds_toArray, List.set_cons_succ, List.set_cons_zero]; rfl
  refine wpAnyK_takeL (i := 2) (d := 7) (v := ?_) (T' := ?_) (listed' := #[true, true, true, false, false, false, false, false, false, false]) rfl rfl (by kernel_rfl) (fun _ _ _ h => h) rfl (Or.inl ⟨by rfl, ?_⟩) ?_ HS0 ?_
  rotate_left 2
  · intro w hS; have t0 := hS.1; clear hS; go_simp; rfl
  · simp only [List.setIfInBounds_toArray, List.set_cons_succ, List.set_cons_zero]; rfl
  refine wpAnyK_takeL (i := 4) (d := 9) (v := ?_) (T' := ?_) (listed' := #[true, true, true, false, true, false, false, false, false, false]) rfl rfl (by kernel_rfl) (fun _ _ _ h => h) rfl (Or.inl ⟨by rfl, ?_⟩) ?_ HS0 ?_
  rotate_left 2
  · intro w hS; clear hS; go_simp; rfl
  · simp only [List.setIfInBounds_toArray, List.set_cons_succ, List.set_cons_zero]; rfl
  refine wpAnyK_takeL (i := 5) (d := 10) (v := ?_) (T' := ?_) (listed' := #[true, true, true, false, true, true, false, false, false, false]) rfl rfl (by kernel_rfl) (fun _ _ _ h => h) rfl (Or.inl ⟨by rfl, ?_⟩) ?_ HS0 ?_
  rotate_left 2
  · intro w hS; have t1 := hS.2.1; clear hS; go_simp; rfl
  · simp only [List.setIfInBounds_toArray, List.set_cons_succ, List.set_cons_zero]; rfl
  refine wpAnyK_takeL (i := 6) (d := 11) (v := ?_) (T' := ?_) (listed' := #[true, true, true, false, true, true, true, false, false, false]) rfl rfl (by kernel_rfl) (fun _ _ _ h => h) rfl (Or.inl ⟨by rfl, ?_⟩) ?_ HS0 ?_
  rotate_left 2
  · intro w hS; clear hS; go_simp; rfl
  · simp only [List.setIfInBounds_toArray, List.set_cons_succ, List.set_cons_zero]; rfl
  refine wpAnyK_takeL (i := 7) (d := 12) (v := ?_) (T' := ?_) (listed' := #[true, true, true, false, true, true, true, true, false, false]) rfl rfl (by kernel_rfl) (fun _ _ _ h => h) rfl (Or.inl ⟨by rfl, ?_⟩) ?_ HS0 ?_
  rotate_left 2
  · intro w hS; have t2 := hS.2.2; clear hS; go_simp; rfl
  · simp only [List.setIfInBounds_toArray, List.set_cons_succ, List.set_cons_zero]; rfl
  refine wpAnyK_oneL (i := 3) (listed' := #[true, true, true, true, true, true, true, true, false, false]) (by kernel_rfl) rfl (by rfl) rfl ?_
  intro K hK
  go_simp
  refine HS1.out.mono ?_
  rintro e w2 ⟨v2, rfl, ho2, hg2⟩
  obtain ⟨a2, c2, hv2⟩ := ho2.rd.len
  rw [sized_len] at hv2
  subst hv2
  have HG2 : Hid (w1.grownBy w2 none) := Lib.hid (gb_same (gb_drew _ _) hg2)
  have e0 := HG2.out.cell s0 (by simp)
  have e1 := HG2.out.cell s1 (by simp)
  have e2 := HG2.out.cell s2 (by simp)
  have HWR := Lib.hid (rwritten_any _ _ (sized l L) od o w2 ho2.rd ((HD.out.grown HG1.out).grown HG2.out) (by rw [sized_len]; exact HO1.out) (by rw [sized_len]; have := HL1.out; omega))
  clear ho2 hg2
  refine hK _ _ (fun _ => ⟨e1, e0, e2⟩) ?_
  clear hK K
  refine wpAnyK_oneL (i := 8) (listed' := #[true, true, true, true, true, true, true, true, true, false]) (by kernel_rfl) rfl (by rfl) rfl ?_
  intro K hK
  go_simp
  refine HWR.out.mono ?_
  rintro e w3 ⟨v3, rfl, ho3, hg3⟩
  have f0 := hg3.cell e0 (by simp)
  have f1 := hg3.cell e1 (by simp)
  have f2 := hg3.cell e2 (by simp)
  have HO3 := Lib.hid ho3
  have HG3 := Lib.hid (gb_same HG2.out hg3)
  clear ho3 hg3
  refine hK _ _ (fun _ => ⟨f1, f0, f2⟩) ?_
  clear hK K
  refine wpAnyK_oneL (i := 9) (listed' := #[true, true, true, true, true, true, true, true, true, true]) (by kernel_rfl) rfl (by rfl) rfl ?_
  intro K hK
  go_simp
  refine hK _ _ (fun h => Bool.noConfusion (show true = false from h)) ?_
  clear hK K
  refine wpAnyK_done (by kernel_rfl) ?_ _
  go_wp2
  go_ret
  exact ⟨_, rfl, by rw [HTR.out]; exact HO3.out.mono (Nat.le_trans HG1.out.size HG2.out.size), gb_same HG1.out HG3.out⟩
theorem takeAll_le : ∀ (rs : List RT) (a : List UInt8) (B : Nat), (∀ r ∈ rs, okR r = true) → a.length ≤ B → 24000 ≤ B → (takeAll a rs).length ≤ B
  | [], _, _, _, h, _ => h
  | r :: rs, a, B, h, ha, hB => takeAll_le rs (takeR a r) B (fun q hq => h q (by simp [hq])) (by rw [takeR_len (h r (by simp))]; have := okR_spec (h r (by simp)); omega) hB
set_option maxRecDepth 100000 in
set_option maxHeartbeats 4000000 in
theorem rrecover_any (va lv : Value) (l : List UInt8) (ps : List RP) (w : World) (hv : Rd w va l) (hl : RdRs w lv ps) (hlen : l.length ≤ 1099511627776) (hn : ps.length ≤ 1000000) (hoi : ∀ p ∈ ps, -9223372036854775808 ≤ p.1.1 ∧ p.1.1 ≤ 9223372036854775807) :
    Calls Try.prog 25 #[va, lv] w (RecP w (okAll (ps.map (·.1))) (recL l (ps.map (·.1)))) := by
  obtain ⟨a0, c0, rfl⟩ := hv.len
  obtain ⟨al, cl, rfl⟩ := hl.1.len
  have HV := Lib.hid hv
  have HL := Lib.hid hl
  have HOI := Lib.hid hoi
  clear hv hl hoi
  go_enter Try.func25, Try.ntmps25
  go_wp2_with fail
  go_loopw [6] (fun i wr => ∃ k : Nat, k ≤ ps.length ∧ i = .int .i64 k ∧ Hid (∀ p ∈ ps.take k, okR p.1 = true) ∧ Hid (w.grownBy wr none)) (fun i _ => ps.length - (intOf i).toNat)
  case atStart => exact ⟨0, Nat.zero_le _, rfl, Lib.hid (by simp), Lib.hid (gb_refl _ _)⟩
  case round =>
    obtain ⟨k, hk, rfl, HOK, HG⟩ := hrel
    by_cases hlt : k < ps.length
    · obtain ⟨p, hp⟩ : ∃ p, ps[k]? = some p := ⟨ps[k], by simp [hlt]⟩
      have hpm := List.mem_of_getElem? hp
      obtain ⟨gb, off, rfl, q0, q1, q2⟩ := HL.out.1.at hp
      have r0 := HG.out.cell q0 (by simp)
      have r1 := HG.out.cell q1 (by simp)
      have r2 := HG.out.cell q2 (by simp)
      have hrd := (HL.out.2 p hpm).grown HG.out
      obtain ⟨ad, cd, hpd⟩ := hrd.len
      rw [hpd] at r2 hrd
      have HVA := Lib.hid (proper_any p.1 (.slice ad p.1.2.2.length cd) wr hrd (HOI.out p hpm))
      have HSN : Hid (ps.take (k + 1) = ps.take k ++ [p]) := Lib.hid (by rw [List.take_add_one, hp]; rfl)
      have HPM := Lib.hid hpm
      clear q0 q1 q2 hp hpm hrd hpd
      cases hok : okR p.1
      · rw [hok] at HVA
        have HO := Lib.hid hok
        clear hok
        go_wp2_with (go_at_call 40; (with_reducible refine HVA.out.mono ?_); rintro e w1 ⟨rfl, hg1⟩)
        refine bodyPost_ret (v := .tuple #[.slice none 0 0, .int .i64 1]) (by simp [results, Try.results25, go_sem]) rfl ?_
        refine ⟨_, _, rfl, gb_same HG.out hg1, (fun h => ?_), fun _ => ⟨rfl, rfl⟩⟩
        unfold okAll at h
        rw [List.all_eq_true] at h
        have := h p.1 (List.mem_map_of_mem HPM.out)
        rw [HO.out] at this
        cases this
      · rw [hok] at HVA
        have HO := Lib.hid hok
        clear hok
        go_wp2_with (go_at_call 40; (with_reducible refine HVA.out.mono ?_); rintro e w1 ⟨rfl, hg1⟩)
        go_roundw
        case rel => exact ⟨k + 1, by omega, by go_num, Lib.hid (by
          rw [HSN.out]
          intro q hq
          rcases List.mem_append.1 hq with h | h
          · exact HOK.out q h
          · simp at h; subst h; exact HO.out), Lib.hid (gb_same HG.out hg1)⟩
        case measure => simp [intOf]; omega
    · obtain rfl : k = ps.length := by omega
      have hall : ∀ p ∈ ps, okR p.1 = true := by have h := HOK.out; rwa [List.take_of_length_le (Nat.le_refl _)] at h
      have hallr : ∀ r ∈ (ps.map (·.1)).reverse, okR r = true := fun r hr => by
        have hr2 : r ∈ ps.map (·.1) := by simpa using hr
        obtain ⟨p, hp, rfl⟩ := List.mem_map.1 hr2
        exact hall p hp
      have HALL := Lib.hid hall
      have HALR := Lib.hid hallr
      have HO := Lib.hid (Own.lit wr #[] [] 0 wr.heap.size rfl rfl (Nat.le_refl _) (Nat.zero_le _))
      clear hall hallr
      go_wp2_with (at_builtin; refine app_bytes rfl _ _ rfl wr.heap.size _ _ [] l rfl rfl HO.out ((HV.out.grown HG.out).grown (gb_alloc _ _ _)) (by simp) (by simp; omega) ?_; go_must (intro v2 w2 ho2 hg2 hf2; rw [List.nil_append] at ho2; have HO2 := Lib.hid (ho2.mono HG.out.size); have HG2 : Hid (w.grownBy w2 none) := Lib.hid (gb_trans (gb_same HG.out (gb_alloc _ _ none)) hg2 (fun k hk => .inr (Nat.le_trans HG.out.size (HO.out.lt k hk).1))); clear ho2 hg2 hf2))
      go_loopw [7, 8] (fun v i wr => ∃ k : Nat, k ≤ ps.length ∧ i = .int .i64 ((ps.length : Int) - 1 - k) ∧ Hid (Own wr w.heap.size v (takeAll l ((ps.map (·.1)).reverse.take k))) ∧ Hid (w.grownBy wr none)) (fun _ i _ => (intOf i + 1).toNat)
      case atStart => exact ⟨0, Nat.zero_le _, by simp, HO2, HG2⟩
      case round =>
        obtain ⟨k, hk2, rfl, HC, HGR⟩ := hrel
        by_cases hlt2 : k < ps.length
        · obtain ⟨m, hm⟩ : ∃ m, ps.length = k + 1 + m := ⟨ps.length - k - 1, by omega⟩
          have hmi : (ps.length : Int) - 1 - k = (m : Int) := by omega
          obtain ⟨p, hp⟩ : ∃ p, ps[m]? = some p := ⟨ps[m]'(by omega), by simp⟩
          have hpm := List.mem_of_getElem? hp
          obtain ⟨gb, off, rfl, q0, q1, q2⟩ := HL.out.1.at hp
          have r0 := HGR.out.cell q0 (by simp)
          have r1 := HGR.out.cell q1 (by simp)
          have r2 := HGR.out.cell q2 (by simp)
          have hrd := (HL.out.2 p hpm).grown HGR.out
          obtain ⟨ad, cd, hpd⟩ := hrd.len
          rw [hpd] at r2 hrd
          have hcl : (takeAll l ((ps.map (·.1)).reverse.take k)).length ≤ 1099511627776 := takeAll_le _ _ _ (fun r hr => HALR.out r (List.mem_of_mem_take hr)) hlen (by omega)
          have HTK := Lib.hid (rtaken_any _ (.slice ad p.1.2.2.length cd) _ p.1 wr HC.out.rd hrd (HALL.out p hpm) hcl)
          have HNX : Hid (takeAll l ((ps.map (·.1)).reverse.take (k + 1)) = takeR (takeAll l ((ps.map (·.1)).reverse.take k)) p.1) := Lib.hid (by
            have e : (ps.map (·.1)).reverse[k]? = some p.1 := by rw [← List.map_reverse, List.getElem?_map, List.getElem?_reverse (by omega), show ps.length - 1 - k = m by omega, hp]; rfl
            rw [List.take_add_one, e]
            exact takeAll_snoc _ _ _)
          have hmN : m < ps.length := by omega
          have HM := Lib.hid hm
          rw [hmi]
          clear q0 q1 q2 hp hpm hrd hpd hcl hm hmi
          go_wp2_with (go_at_call 41; (with_reducible refine HTK.out.mono ?_); rintro e w3 ⟨v3, rfl, ho3, hg3⟩)
          go_roundw
          case rel => exact ⟨k + 1, by omega, congrArg (Value.int .i64) (by have := HM.out; omega), Lib.hid (by rw [HNX.out]; exact ho3.mono HGR.out.size), Lib.hid (gb_same HGR.out hg3)⟩
          case measure => simp [intOf]
        · obtain rfl : k = ps.length := by omega
          have hmi : (ps.length : Int) - 1 - ps.length = -1 := by omega
          rw [hmi]
          clear hmi
          go_wp2
          go_ret2
          refine ⟨_, _, rfl, HGR.out, (fun _ => ⟨rfl, ?_⟩), (fun h => ?_)⟩
          · have h := HC.out
            rwa [List.take_of_length_le (by simp)] at h
          · unfold okAll at h
            have : (ps.map (·.1)).all okR = true := by rw [List.all_eq_true]; intro r hr; exact HALR.out r (by simpa using hr)
            rw [this] at h
            cases h
end Go.Proofs.Ytfdkmncjcehdkaa
