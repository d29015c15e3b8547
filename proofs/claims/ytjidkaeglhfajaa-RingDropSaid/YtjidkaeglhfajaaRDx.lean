/-
  law.RingDrop: the walk.
-/
import Derived.Test.YtjidkaeglhfajaaRDs
namespace Go.Proofs.Ytjidkaeglhfajaa
open Go.RowKit Go.Shelf

theorem t0_of {w : World} {b : Nat} {m : Mg} {dv : Value} {T : TypeId} (h : w.heap[b]? = some (.cells (m.row dv) T (0, 0))) : w.cell? ⟨b, 0, none⟩ = some (.int .i64 m.s) := by
  unfold Mg.row at h
  exact cell_row h
set_option maxRecDepth 100000 in
set_option maxHeartbeats 4000000 in
theorem ringDrop_any (v : Value) (ps : List CP) (src : Int) (w : World) (hl : RdCl w v ps) : Calls Try.prog 6 #[v, .int .i64 src] w fun e w' => e = .returned (.bool true) ∧ w.grownBy w' none := by
  have HA := Lib.hid (awake_any w)
  have hsm := hl.1.small
  have HFW := Lib.hid (fun (W : World) (hg : w.grownBy W none) => fewC_any v ps W (hl.grown hg))
  obtain ⟨al, cl, rfl⟩ := hl.1.len
  have HL := Lib.hid hl
  have HNM : Hid (∀ W, Calls Try.prog 31 #[.int .i64 60] W (NewM 60 W)) := Lib.hid (fun W => newM_any 60 W (by omega) (by omega))
  clear hl
  go_enter Try.func6, Try.ntmps6
  go_wp2_with fail
  refine HA.out.mono ?_
  rintro e w1 ⟨rfl, hg1⟩
  have HG1 := Lib.hid hg1
  clear hg1
  go_wp2_with fail
  refine (HNM.out w1).mono ?_
  rintro e w2 ⟨g, rfl, hg0, hg2, hm2⟩
  have HG2 := Lib.hid (gb_same HG1.out hg2)
  have HD2 : Hid (DS w w2 w1.heap.size g (.slice none 0 0) [] (.slice none 0 0) []) := Lib.hid ⟨hm2, by simp, GRow.nil _ _, by simp, by simp [Value.ownBlock], by simp, HG2.out, HG1.out.size, hg2.size, Nat.le_trans HG1.out.size hg0⟩
  clear hg0 hg2 hm2
  generalize w1.heap.size = B at *
  go_wp2_with fail
  refine (HFW.out w2 HG2.out).mono ?_
  rintro e w3 ⟨t, rfl, ht, rfl⟩
  cases t with
  | false =>
    clear ht
    go_wp2
    go_ret
    exact ⟨rfl, HG2.out⟩
  | true =>
    have h40 : (ps.length : Int) ≤ 40 := by have := ht rfl; omega
    clear ht HA HFW HNM
    go_wp2_with fail
    go_loopw [7, 8, 9] (fun u7 u8 u9 wr => ∃ (k cn : Nat) (v : Value) (qs : List GP) (wv : Value) (ws : List GP), k ≤ ps.length ∧ u9 = .int .i64 k ∧ u7 = wv ∧ u8 = .int .i64 cn ∧ cn ≤ k ∧ qs.length ≤ k ∧ Hid (DS w wr B g v qs wv ws) ∧ Hid ((keepM qs src).map (·.1) = ws.map (·.1) ∧ qs.length - (keepM qs src).length = cn)) (fun _ _ u9 _ => ps.length - (intOf u9).toNat)
    case atStart => exact ⟨0, 0, _, [], _, [], Nat.zero_le _, rfl, rfl, rfl, Nat.le_refl _, Nat.le_refl _, HD2, Lib.hid ⟨rfl, rfl⟩⟩
    case round =>
      obtain ⟨k, cn, v, qs, wv, ws, hk, rfl, rfl, rfl, hck, hqk, HD, HE⟩ := hrel
      by_cases hlt : k < ps.length
      · obtain ⟨p, hp⟩ : ∃ p, ps[k]? = some p := ⟨ps[k], by simp [hlt]⟩
        have hl1 := HL.out.grown HD.out.gr
        obtain ⟨b, off, rfl, hcc⟩ := hl1.1.at hp
        have hdw := HL.out.2 p (List.mem_of_getElem? hp)
        obtain ⟨kd, sr, m, dv⟩ := p
        have hdw' : RdW w dv m.z := hdw
        clear hdw
        obtain ⟨ad, cd, hdv⟩ := hdw'.len
        subst hdv
        have n2 := hcc 2 _ rfl
        have n3 := hcc 3 _ rfl
        have n4 := hcc 4 _ rfl
        have n5 := hcc 5 _ rfl
        have n6 := hcc 6 _ rfl
        have n7 := hcc 7 _ rfl
        have n8 := hcc 8 _ rfl
        have n9 := hcc 9 _ rfl
        have n10 := hcc 10 _ rfl
        have HDW : Hid (RdW w (.slice ad m.z.length cd) m.z) := Lib.hid hdw'
        have hzs := hdw'.small
        have HZB := Lib.hid (heap_at_alloc wr (.cells #[.int .i64 0, .int .i64 0, .int .i64 0, .int .i64 0, .int .i64 0, .int .i64 0, .int .i64 0, .int .i64 0, .slice none 0 0] 65))
        have HGZ := Lib.hid (gb_alloc wr (.cells #[.int .i64 0, .int .i64 0, .int .i64 0, .int .i64 0, .int .i64 0, .int .i64 0, .int .i64 0, .int .i64 0, .slice none 0 0] 65) none)
        clear hcc hl1 hp hdw'
        simp only at n2 n3 n4 n5 n6 n7 n8 n9 n10 hzs
        go_wp2_with (first | ((with_reducible refine is_store 65 10 41 ?_); go_must (refine st_row 65 10 41 wr.heap.size _ (m.row (.slice ad m.z.length cd)) _ rfl rfl HZB.out msize rfl rfl ?_; intro w2' hb2 hg2; have HB2 := Lib.hid hb2; have HGB2 := Lib.hid hg2; clear hb2 hg2)) | ((with_reducible refine is_load 65 43 10 ?_); go_must (refine ld_row 65 43 10 wr.heap.size _ _ rfl HB2.out Try.underlying65 msize ?_)))
        clear n2 n3 n4 n5 n6 n7 n8 n9 n10
        have HGW2 := Lib.hid (gb_new HGZ.out HGB2.out (Nat.le_refl _))
        have HD2' := Lib.hid (HD.out.grown HGW2.out)
        have HBZ : Hid (wr.heap.size < w2'.heap.size ∧ wr.heap.size ≠ g ∧ v.ownBlock ≠ some wr.heap.size) := Lib.hid ⟨lt_of_blk HB2.out, by have := HD.out.m.lt; omega, fun e => by have := (HD.out.m.row.lt _ e).2; omega⟩
        have hpb := putM_any HD2'.out.m HD2'.out.b1 m (.slice ad m.z.length cd) (HDW.out.grown HD2'.out.gr)
        unfold PutM at hpb
        have hq60 : qs.length < 60 := by omega
        have HCNT : Hid (cn ≤ k ∧ qs.length ≤ k ∧ k < ps.length) := Lib.hid ⟨hck, hqk, hlt⟩
        by_cases hz : 1536 < m.z.length
        · have hE : putME 60 qs m = 6 := by unfold putME; rw [if_pos (.inr hz)]
          rw [hE] at hpb
          have HP := Lib.hid hpb
          have hz' : (1536 : Int) < (m.z.length : Int) := by omega
          clear hpb hE hz
          refine HP.out.mono ?_
          rintro e w3 ⟨rfl, ⟨_, hg3⟩ | ⟨h0, _⟩⟩
          · have HD3 := Lib.hid (HD2'.out.grown hg3)
            have hb3 := blk_kept HB2.out hg3
            unfold Mg.row at hb3
            have t8 := cell_row (j := 8) hb3
            clear hg3 hb3
            go_wp2
            go_roundw
            case rel => exact ⟨k + 1, cn, v, qs, _, ws, by omega, by go_num, rfl, rfl, by omega, by omega, HD3, HE⟩
            case measure => simp [intOf]; omega
          · exact absurd h0 (by decide)
        · have hE : putME 60 qs m = 0 := by unfold putME; rw [if_neg (by omega)]
          rw [hE] at hpb
          have HP := Lib.hid hpb
          have HZL : Hid (m.z.length ≤ 1536) := Lib.hid (by omega)
          clear hpb hE hz
          refine HP.out.mono ?_
          rintro e w3 ⟨rfl, ⟨h0, _⟩ | ⟨_, v3, dv3, hm3, hk3, hf3, ho3⟩⟩
          · exact absurd rfl h0
          · have HD3 := Lib.hid (HD2'.out.put hm3 hk3 hf3 ho3 HZL.out)
            have HB3 : Hid (w3.heap[wr.heap.size]? = some (.cells (m.row (.slice ad m.z.length cd)) 65 (0, 0))) := Lib.hid (by rw [hk3.2.2.2.2 _ HBZ.out.1 HBZ.out.2.1 HBZ.out.2.2]; exact HB2.out)
            have hb3 := HB3.out
            unfold Mg.row at hb3
            have t0 := cell_row (j := 0) hb3
            have hks := keepM_snoc qs (m, dv3) src
            have hkl := keepM_le qs src
            clear hm3 hk3 hf3 ho3 hb3
            by_cases hx : m.s = src
            · have hb : decide (m.s = src) = true := by simpa using hx
              have hb2 : (m.s == src) = true := by rw [beq_iff_eq]; exact hx
              rw [if_pos hx, List.append_nil] at hks
              have HE3 : Hid ((keepM (qs ++ [(m, dv3)]) src).map (·.1) = ws.map (·.1) ∧ (qs ++ [(m, dv3)]).length - (keepM (qs ++ [(m, dv3)]) src).length = cn + 1) := Lib.hid (by
                have := HE.out.2
                rw [hks]
                refine ⟨HE.out.1, ?_⟩
                rw [List.length_append, List.length_singleton]
                omega)
              have HXX := Lib.hid hx
              clear hks hkl hx
              go_wp2
              go_roundw
              case rel => exact ⟨k + 1, cn + 1, _, _, _, ws, by omega, by go_num, rfl, by go_num, by omega, by simp; omega, HD3, HE3⟩
              case measure => simp [intOf]; omega
            · have hb : decide (m.s = src) = false := by simpa using hx
              have hb2 : (m.s == src) = false := by rw [beq_eq_false_iff_ne]; exact hx
              rw [if_neg hx] at hks
              have HE3 : Hid ((keepM (qs ++ [(m, dv3)]) src).map (·.1) = (ws ++ [(m, (.slice ad m.z.length cd : Value))]).map (·.1) ∧ (qs ++ [(m, dv3)]).length - (keepM (qs ++ [(m, dv3)]) src).length = cn) := Lib.hid (by
                have := HE.out.2
                rw [hks, List.map_append, List.map_append, HE.out.1]
                refine ⟨rfl, ?_⟩
                rw [List.length_append, List.length_append, List.length_singleton]
                simp
                omega)
              have HWL : Hid (ws.length ≤ 60) := Lib.hid (by
                have := congrArg List.length HE.out.1
                rw [List.length_map, List.length_map] at this
                omega)
              clear hks hkl hx t0
              have t0' := t0_of HB3.out
              have HLIT : Hid (RdG (w3.alloc (.cells (m.row (.slice ad m.z.length cd)) 65)) (.slice (some ⟨w3.heap.size, 0, none⟩) 1 1) [(m, .slice ad m.z.length cd)]) := Lib.hid (RdG.one (heap_at_alloc _ _))
              have HDA := Lib.hid (HD3.out.grown (gb_alloc w3 (.cells (m.row (.slice ad m.z.length cd)) 65) none))
              have HONE : Hid (∀ p ∈ [(m, (.slice ad m.z.length cd : Value))], p.2.oneCell' = true) := Lib.hid (by simp; rfl)
              have HSZ : Hid (ws.length + [(m, (.slice ad m.z.length cd : Value))].length ≤ 1000000) := Lib.hid (by have := HWL.out; simp; omega)
              unfold Mg.row at HLIT HDA HB3
              go_wp2_with (first | ((with_reducible refine is_load 65 57 10 ?_); go_must (refine ld_row 65 57 10 wr.heap.size _ _ rfl HB3.out Try.underlying65 msize ?_)) | (refine mapp_step rfl (.tmp 56) (.tmp 58) rfl B _ _ ws [(m, .slice ad m.z.length cd)] rfl rfl HDA.out.row HLIT.out HONE.out HSZ.out HDA.out.b1 ?_; go_must (intro v6 w6 h6 hg6 hf6; have HD6 := Lib.hid (HDA.out.want h6 hg6 hf6 HDW.out); clear h6 hg6 hf6)))
              go_roundw
              case rel => exact ⟨k + 1, cn, _, _, _, _, by omega, by go_num, rfl, rfl, by omega, by simp; omega, HD6, HE3⟩
              case measure => simp [intOf]; omega
      · obtain rfl : k = ps.length := by omega
        clear hlt hck hqk hk
        obtain ⟨aw, cw, rfl, _, _⟩ := HD.out.row.slice
        have hkl : (keepM qs src).length = ws.length := by
          have := congrArg List.length HE.out.1
          rw [List.length_map, List.length_map] at this
          exact this
        have hdr := dropM_any HD.out.m src
        unfold DropM at hdr
        rw [HE.out.2] at hdr
        have HDR := Lib.hid hdr
        have hws : ws.length ≤ 60 := by
          have h1 := keepM_le qs src
          have h2 := HD.out.m.cnt
          omega
        have hws' : (ws.length : Int) ≤ 60 := by omega
        clear hdr hws
        go_wp2_with fail
        refine HDR.out.mono ?_
        rintro e w3 ⟨v3, rfl, hm3, hk3, hb3⟩
        have HD3 := Lib.hid (HD.out.cut hm3 hk3 hb3 (fun q hq => (List.mem_filter.1 hq).1))
        have hlm := lenM_any hm3
        rw [hkl] at hlm
        have HLM := Lib.hid hlm
        have HK3 := Lib.hid hkl
        clear hm3 hk3 hb3 hlm hkl
        go_wp2_with fail
        refine HLM.out.mono ?_
        rintro e w4 ⟨rfl, rfl⟩
        go_wp2_with fail
        go_loopw [11] (fun u11 wr => ∃ (k : Nat) (v : Value) (rs : List GP), k ≤ ws.length ∧ u11 = .int .i64 k ∧ Hid (rs.length = ws.length - k) ∧ Hid (DS w wr B g v rs (.slice aw ws.length cw) ws) ∧ Hid (rs.map (·.1) = (ws.map (·.1)).drop k)) (fun u11 _ => ws.length - (intOf u11).toNat)
        case atStart => exact ⟨0, v3, _, Nat.zero_le _, rfl, Lib.hid (by rw [HK3.out]; rfl), HD3, Lib.hid (by rw [HE.out.1]; rfl)⟩
        case round =>
          obtain ⟨k, v, rs, hk, rfl, HRL, HD, HE⟩ := hrel
          by_cases hlt : k < ws.length
          · obtain ⟨p, rs, rfl⟩ : ∃ p rs', rs = p :: rs' := by
              cases rs with
              | nil => have := HRL.out; simp at this; omega
              | cons p rs' => exact ⟨p, rs', rfl⟩
            obtain ⟨q, hq⟩ : ∃ q, ws[k]? = some q := ⟨ws[k], by simp [hlt]⟩
            have hpq : q.1 = p.1 := by
              have h1 := congrArg (·[0]?) HE.out
              simp only [List.map_cons, List.getElem?_cons_zero, List.getElem?_drop, Nat.add_zero, List.getElem?_map, hq, Option.map_some, Option.some.injEq] at h1
              exact h1.symm
            have HE2 : Hid (rs.map (·.1) = (ws.map (·.1)).drop (k + 1)) := Lib.hid (by
              have h1 := congrArg (List.drop 1) HE.out
              rw [List.drop_drop] at h1
              exact h1)
            have HRL2 : Hid (rs.length = ws.length - (k + 1)) := Lib.hid (by have := HRL.out; simp at this; omega)
            have hrq := HD.out.rd q (List.mem_of_getElem? hq)
            obtain ⟨m, dp⟩ := p
            obtain ⟨m', dq⟩ := q
            obtain rfl : m' = m := hpq
            have hrq' : RdW w dq m'.z := hrq
            obtain ⟨aq, cq, hdq⟩ := hrq'.len
            subst hdq
            have HRQ := Lib.hid hrq'
            have HQ := Lib.hid hq
            have HTM := Lib.hid (takeM_any HD.out.m (HD.out.zs _ (by simp)))
            clear hq hrq hrq'
            go_wp2_with fail
            refine HTM.out.mono ?_
            rintro e w5 ⟨dv5, v5, rfl, ho5, hm5, hk5, hb5⟩
            have HD5 := Lib.hid (HD.out.cut hm5 hk5 hb5 (fun q hq => by simp [hq]))
            obtain ⟨a5, c5, rfl⟩ := ho5.rd.len
            have HO5 := Lib.hid ho5
            clear ho5 hm5 hk5 hb5
            have HZB := Lib.hid (heap_at_alloc w5 (.cells #[.int .i64 0, .int .i64 0, .int .i64 0, .int .i64 0, .int .i64 0, .int .i64 0, .int .i64 0, .int .i64 0, .slice none 0 0] 65))
            have HGZ := Lib.hid (gb_alloc w5 (.cells #[.int .i64 0, .int .i64 0, .int .i64 0, .int .i64 0, .int .i64 0, .int .i64 0, .int .i64 0, .int .i64 0, .slice none 0 0] 65) none)
            go_wp2_with ((with_reducible refine is_store 65 12 81 ?_); go_must (refine st_row 65 12 81 w5.heap.size _ (m'.row (.slice a5 m'.z.length c5)) _ rfl rfl HZB.out msize rfl rfl ?_; intro w6' hb6 hg6; have HB6' := Lib.hid hb6; have HGB6 := Lib.hid hg6; clear hb6 hg6))
            have HGW6 := Lib.hid (gb_same (gb_new HGZ.out HGB6.out (Nat.le_refl _)) (gb_drew w6' none))
            have HB6 := Lib.hid (blk_kept HB6'.out (gb_drew w6' none))
            have HD6 := Lib.hid (HD5.out.grown HGW6.out)
            have HV6 := Lib.hid ((HO5.out.grown HGW6.out).rd.w)
            have HQ6 := Lib.hid (HRQ.out.grown HD6.out.gr)
            have HS0 := Lib.hid (And.intro HB6.out HD6.out.row)
            have HSM := Lib.hid (sameM_any m' _ _ _ HV6.out HQ6.out)
            unfold Mg.row at HS0 HSM
            obtain ⟨bw, rfl, _⟩ := HD6.out.row.at9 HQ.out
            refine region_KL (fuel := 11) (listed := #[false, false, false, false, false, false, false, false, false, false, false]) (fun X => X.heap[w5.heap.size]? = some (.cells #[.int .i64 m'.s, .int .i64 m'.d, .int .i64 m'.k, .int .i64 m'.q, .int .i64 m'.a, .int .i64 m'.b, .int .i64 m'.c, .int .i64 m'.e, .slice a5 m'.z.length c5] 65 (0, 0)) ∧ GRow X B (.slice (some ⟨bw, 0, none⟩) ws.length cw) ws) 10 (by kernel_rfl) rfl (by kernel_rfl) ?_
            generalize w6'.drew = w6 at *
            refine wpAnyK_takeL (i := 0) (d := 83) (v := ?_) (T' := ?_) (listed' := #[true, false, false, false, false, false, false, false, false, false, false]) rfl rfl (by kernel_rfl) (fun _ _ _ h => h) rfl (Or.inl ⟨by rfl, ?_⟩) ?_ HS0.out ?_
            rotate_left 2
            · intro w hS; clear hS; go_simp; rfl
            · simp only [List.setIfInBounds_toArray, List.set_cons_succ, List.set_cons_zero]; rfl
            refine wpAnyK_takeL (i := 1) (d := 84) (v := ?_) (T' := ?_) (listed' := #[true, true, false, false, false, false, false, false, false, false, false]) rfl rfl (by kernel_rfl) (fun _ _ _ h => h) rfl (Or.inl ⟨by rfl, ?_⟩) ?_ HS0.out ?_
            rotate_left 2
            · intro w hS; clear hS; go_simp; rfl
            · simp only [List.setIfInBounds_toArray, List.set_cons_succ, List.set_cons_zero]; rfl
            refine wpAnyK_takeL (i := 2) (d := 85) (v := ?_) (T' := ?_) (listed' := #[true, true, true, false, false, false, false, false, false, false, false]) rfl rfl (by kernel_rfl) (fun _ _ _ h => h) rfl (Or.inl ⟨by rfl, ?_⟩) ?_ HS0.out ?_
            rotate_left 2
            · intro w hS; clear hS; go_simp; rfl
            · simp only [List.setIfInBounds_toArray, List.set_cons_succ, List.set_cons_zero]; rfl
            refine wpAnyK_takeL (i := 3) (d := 86) (v := ?_) (T' := ?_) (listed' := #[true, true, true, true, false, false, false, false, false, false, false]) rfl rfl (by kernel_rfl) (fun _ _ _ h => h) rfl (Or.inl ⟨by rfl, ?_⟩) ?_ HS0.out ?_
            rotate_left 2
            · intro w hS; have hb := hS.1; have t0 := cell_row (j := 0) hb; have t1 := cell_row (j := 1) hb; have t2 := cell_row (j := 2) hb; have t3 := cell_row (j := 3) hb; have t4 := cell_row (j := 4) hb; have t5 := cell_row (j := 5) hb; have t6 := cell_row (j := 6) hb; have t7 := cell_row (j := 7) hb; have t8 := cell_row (j := 8) hb; clear hS hb; go_simp; rfl
            · simp only [List.setIfInBounds_toArray, List.set_cons_succ, List.set_cons_zero]; rfl
            refine wpAnyK_takeL (i := 4) (d := 87) (v := ?_) (T' := ?_) (listed' := #[true, true, true, true, true, false, false, false, false, false, false]) rfl rfl (by kernel_rfl) (fun _ _ _ h => h) rfl (Or.inl ⟨by rfl, ?_⟩) ?_ HS0.out ?_
            rotate_left 2
            · intro w hS; clear hS; go_simp; rfl
            · simp only [List.setIfInBounds_toArray, List.set_cons_succ, List.set_cons_zero]; rfl
            refine wpAnyK_takeL (i := 5) (d := 88) (v := ?_) (T' := ?_) (listed' := #[true, true, true, true, true, true, false, false, false, false, false]) rfl rfl (by kernel_rfl) (fun _ _ _ h => h) rfl (Or.inl ⟨by rfl, ?_⟩) ?_ HS0.out ?_
            rotate_left 2
            · intro w hS; clear hS; go_simp; rfl
            · simp only [List.setIfInBounds_toArray, List.set_cons_succ, List.set_cons_zero]; rfl
            refine wpAnyK_takeL (i := 6) (d := 89) (v := ?_) (T' := ?_) (listed' := #[true, true, true, true, true, true, true, false, false, false, false]) rfl rfl (by kernel_rfl) (fun _ _ _ h => h) rfl (Or.inl ⟨by rfl, ?_⟩) ?_ HS0.out ?_
            rotate_left 2
            · intro w hS; clear hS; go_simp; rfl
            · simp only [List.setIfInBounds_toArray, List.set_cons_succ, List.set_cons_zero]; rfl
            refine wpAnyK_takeL (i := 7) (d := 90) (v := ?_) (T' := ?_) (listed' := #[true, true, true, true, true, true, true, true, false, false, false]) rfl rfl (by kernel_rfl) (fun _ _ _ h => h) rfl (Or.inl ⟨by rfl, ?_⟩) ?_ HS0.out ?_
            rotate_left 2
            · intro w hS; obtain ⟨_, hb9, _, n0, n1, n2, n3, n4, n5, n6, n7, n8⟩ := hS.2.at9 HQ.out; cases hb9; clear hS; go_simp; rfl
            · simp only [List.setIfInBounds_toArray, List.set_cons_succ, List.set_cons_zero]; rfl
            refine wpAnyK_oneL (i := 8) (listed' := #[true, true, true, true, true, true, true, true, true, false, false]) (by kernel_rfl) rfl (by rfl) rfl ?_
            intro K' hK
            go_simp
            refine HSM.out.mono ?_
            rintro e w7 ⟨rfl, hg7⟩
            have HD7 := Lib.hid (HD6.out.grown hg7)
            have HS7 := Lib.hid (And.intro (blk_kept HS0.out.1 hg7) HD7.out.row)
            clear hg7
            refine hK _ _ (fun _ => HS7.out) ?_
            clear hK K'
            refine wpAnyK_takeL (i := 9) (d := 92) (v := ?_) (T' := ?_) (listed' := #[true, true, true, true, true, true, true, true, true, true, false]) rfl rfl (by kernel_rfl) (fun _ _ _ h => h) rfl (Or.inl ⟨by rfl, ?_⟩) ?_ HS7.out ?_
            rotate_left 2
            · intro w hS; clear hS; go_simp; rfl
            · simp only [List.setIfInBounds_toArray, List.set_cons_succ, List.set_cons_zero]; rfl
            refine wpAnyK_oneL (i := 10) (listed' := #[true, true, true, true, true, true, true, true, true, true, true]) (by kernel_rfl) rfl (by rfl) rfl ?_
            intro K' hK
            go_simp
            refine hK _ _ (fun h => Bool.noConfusion (show true = false from h)) ?_
            clear hK K'
            refine wpAnyK_done (by kernel_rfl) ?_ _
            go_wp2
            go_roundw
            case rel => exact ⟨k + 1, _, rs, by omega, by go_num, HRL2, HD7, HE2⟩
            case measure => simp [intOf]; omega
          · obtain rfl : k = ws.length := by omega
            obtain rfl : rs = [] := List.eq_nil_of_length_eq_zero (by have := HRL.out; omega)
            have HTM := Lib.hid (takeM_none HD.out.m)
            unfold ValG noMsg zrowM at HTM
            clear hlt
            go_wp2_with fail
            refine HTM.out.mono ?_
            rintro e w5 ⟨rfl, hg5⟩
            have HG5 := Lib.hid (gb_same HD.out.gr hg5)
            have HZB := Lib.hid (heap_at_alloc w5 (.cells #[.int .i64 0, .int .i64 0, .int .i64 0, .int .i64 0, .int .i64 0, .int .i64 0, .int .i64 0, .int .i64 0, .slice none 0 0] 65))
            have HGZ := Lib.hid (gb_alloc w5 (.cells #[.int .i64 0, .int .i64 0, .int .i64 0, .int .i64 0, .int .i64 0, .int .i64 0, .int .i64 0, .int .i64 0, .slice none 0 0] 65) none)
            clear hg5
            go_wp2_with ((with_reducible refine is_store 65 14 97 ?_); go_must (refine st_row 65 14 97 w5.heap.size _ #[.int .i64 0, .int .i64 0, .int .i64 0, .int .i64 0, .int .i64 0, .int .i64 0, .int .i64 0, .int .i64 0, .slice none 0 0] _ rfl rfl HZB.out msize rfl rfl ?_; intro w6 hb6 hg6; have HGB6 := Lib.hid hg6; clear hb6 hg6))
            go_ret
            exact ⟨rfl, gb_same HG5.out (gb_new HGZ.out HGB6.out (Nat.le_refl _))⟩
end Go.Proofs.Ytjidkaeglhfajaa
