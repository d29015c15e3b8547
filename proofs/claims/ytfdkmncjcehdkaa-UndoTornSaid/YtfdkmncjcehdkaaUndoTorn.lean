/-
  law.UndoTorn: the walk.
-/
import Derived.Test.YtfdkmncjcehdkaaUDo
namespace Go.Proofs.Ytfdkmncjcehdkaa
open Go.RowKit

theorem wrS_write {img img' : List UInt8} {n : Int} {d : List UInt8} {r : RT} (h : wrS img ((1 : Int), n, d) = some (img', r)) : ∃ o : Nat, n = o ∧ o + d.length ≤ img.length ∧ img' = putAt img o d ∧ r = wrRec img o d.length := by
  unfold wrS at h
  rw [if_pos rfl] at h
  split at h
  · cases h
  · rename_i hc
    simp only [Option.some.injEq, Prod.mk.injEq] at h
    simp only at hc
    obtain ⟨o, rfl⟩ := Int.eq_ofNat_of_zero_le (show 0 ≤ n by omega)
    exact ⟨o, rfl, by omega, by rw [← h.1]; simp, by rw [← h.2]; simp⟩
theorem gt_set {l : List UInt8} {i : Nat} {x : UInt8} (j : Nat) (hj : i ≠ j) : gt (l.set i x) j = gt l j := by
  unfold gt
  rw [List.getD_eq_getElem?_getD, List.getD_eq_getElem?_getD, List.getElem?_set_ne hj]
/-- what the outer loop keeps -/
def TorInv (w : World) (b : List UInt8) (g k : Nat) (wr : World) : Prop :=
  ∃ F iv rv img ps, LogF wr F g iv rv img ps true ∧ LInv b img (ps.map (·.1)) ∧ ps.length ≤ k ∧ ∀ j, F j → w.heap.size ≤ j
theorem TorInv.grown {w wr X : World} {b : List UInt8} {g k k' : Nat} (h : TorInv w b g k wr) (hg : wr.grownBy X none) (hk : k ≤ k') : TorInv w b g k' X := by
  obtain ⟨F, iv, rv, img, ps, h1, h2, h3, h4⟩ := h
  exact ⟨F, iv, rv, img, ps, h1.grown hg (by simp), h2, by omega, h4⟩
theorem Foot.cell {w w' : World} {F F' : Nat → Prop} (h : Foot w w' F F') {a : Addr} {v : Value} (hc : w.cell? a = some v) (hn : ¬ F a.block) : w'.cell? a = some v :=
  (World.cell?_of_block (h.block a.block (World.block_lt_of_cell? w a hc) hn)).trans hc
theorem recs_len {ps : List RP} (hok : okAll (ps.map (·.1)) = true) : ∀ p ∈ ps, p.1.2.2.length ≤ 140737488355328 := fun p hp => by
  unfold okAll at hok
  rw [List.all_eq_true] at hok
  have := okR_spec (hok p.1 (List.mem_map_of_mem hp))
  omega

set_option maxRecDepth 100000 in
set_option maxHeartbeats 8000000 in
theorem undoTorn_any (vb lv mv : Value) (b : List UInt8) (ss : List RP) (ms : List Bool) (w : World) (hb : Rd w vb b) (hl : RdRs w lv ss) (hok : ∀ p ∈ ss, OkP w p) (hm : RdL w mv (ms.map .bool)) : Calls Try.prog 5 #[vb, lv, mv] w (BoolQ true w) := by
  have hbs := hb.small
  have hmlen : (ms.map Value.bool).length = ms.length := List.length_map ..
  obtain ⟨ab, cb, rfl⟩ := hb.len
  obtain ⟨al, cl, rfl⟩ := hl.1.len
  obtain ⟨am, cm, hmv⟩ := hm.len
  rw [hmlen] at hmv
  subst hmv
  have HW := Lib.hid (awake_any w)
  have HB := Lib.hid hb
  have HL := Lib.hid hl
  have HOK := Lib.hid hok
  have HM := Lib.hid hm
  have HML := Lib.hid hmlen
  have HF := Lib.hid (fun W (hW : w.grownBy W none) => sfew_any _ _ b ss W (hb.grown hW) (hl.grown hW))
  clear hb hl hok hm hmlen
  cases hf : sfewB b.length (ss.map (·.1))
  · rw [hf] at HF
    clear hf
    go_enter Try.func5, Try.ntmps5
    go_wp2_with (first | (go_at_call 9; (with_reducible refine HW.out.mono ?_); go_must (rintro e w1 ⟨rfl, hg1⟩; have HG1 := Lib.hid hg1; clear hg1)) | (go_at_call 10; (with_reducible refine (HF.out _ HG1.out).mono ?_); rintro e w' ⟨rfl, rfl⟩))
    go_ret
    exact ⟨rfl, HG1.out⟩
  rw [hf] at HF
  obtain ⟨hb1, hn1, hps⟩ := sfewB_spec hf
  have HB1 := Lib.hid hb1
  have HN := Lib.hid hn1
  have HPS := Lib.hid hps
  clear hf hb1 hps
  by_cases hmm : (300 : Int) < ms.length
  · go_enter Try.func5, Try.ntmps5
    go_wp2_with (first | (go_at_call 9; (with_reducible refine HW.out.mono ?_); go_must (rintro e w1 ⟨rfl, hg1⟩; have HG1 := Lib.hid hg1; clear hg1)) | (go_at_call 10; (with_reducible refine (HF.out _ HG1.out).mono ?_); rintro e w' ⟨rfl, rfl⟩))
    go_ret
    exact ⟨rfl, HG1.out⟩
  have hms : (ms.length : Int) ≤ 300 := by omega
  clear hmm
  go_enter Try.func5, Try.ntmps5
  go_wp2_with (first | (go_at_call 9; (with_reducible refine HW.out.mono ?_); go_must (rintro e w1 ⟨rfl, hg1⟩; have HG1 := Lib.hid hg1; clear hg1)) | (go_at_call 10; (with_reducible refine (HF.out _ HG1.out).mono ?_); rintro e w' ⟨rfl, rfl⟩))
  have HNEW := Lib.hid (new_any _ b w1 (HB.out.grown HG1.out) (by have := HB1.out; omega))
  (with_reducible refine HNEW.out.mono ?_)
  rintro e w2 ⟨g, F, iv, rfl, hg2, hl2, hF2⟩
  have HBG := Lib.hid (begin_any hl2)
  have HG2 := Lib.hid (gb_same HG1.out hg2)
  have HF2 := Lib.hid (fun k hk => Nat.le_trans HG1.out.size (hF2 k hk))
  clear hg2 hl2 hF2
  go_wp2_with fail
  (with_reducible refine HBG.out.mono ?_)
  rintro e w3 ⟨rfl, F3, iv3, rv3, ps3, hl3, hp3, hf3⟩
  obtain rfl : ps3 = [] := by cases ps3 with | nil => rfl | cons x xs => simp at hp3
  have HI3 : Hid (TorInv w b g 0 w3) := Lib.hid ⟨F3, iv3, rv3, b, [], hl3, ⟨rfl, rfl, by have := HB1.out; omega⟩, Nat.le_refl _, fun j hj => by
    rcases hf3.sub j hj with h | h
    · exact HF2.out j h
    · exact Nat.le_trans HG2.out.size h⟩
  have HG3 : Hid (w.grownBy w3 none) := Lib.hid (hf3.gb HG2.out HF2.out)
  clear hl3 hp3 hf3
  go_wp2_with fail
  go_loopw [9] (fun i wr => ∃ k : Nat, k ≤ ss.length ∧ i = .int .i64 k ∧ Hid (TorInv w b g k wr) ∧ Hid (w.grownBy wr none)) (fun i _ => ss.length - (intOf i).toNat)
  case atStart => exact ⟨0, Nat.zero_le _, rfl, HI3, HG3⟩
  case round =>
    obtain ⟨k, hk, rfl, HI, HG⟩ := hrel
    obtain ⟨wo, hwo⟩ : ∃ wo, wo = wr := ⟨wr, rfl⟩
    subst hwo
    by_cases hlt : k < ss.length
    · obtain ⟨p, hp⟩ : ∃ p, ss[k]? = some p := ⟨ss[k], by simp [hlt]⟩
      have hpm := List.mem_of_getElem? hp
      obtain ⟨gb, off, rfl, q0, q1, q2⟩ := HL.out.1.at hp
      have r0 := HG.out.cell q0 (by simp)
      have r1 := HG.out.cell q1 (by simp)
      have r2 := HG.out.cell q2 (by simp)
      have hop := HOK.out p hpm
      have hd3 := HPS.out p hpm
      obtain ⟨⟨op, n, d⟩, dv⟩ := p
      obtain ⟨ad, cd, hpd⟩ := hop.1.len
      simp only at hpd r0 r1 r2 hd3
      subst hpd
      have HOP := Lib.hid hop
      have HD3 := Lib.hid hd3
      obtain ⟨w4, hw4⟩ : ∃ w4, wo.alloc (.cells #[.int .i64 op, .int .i64 n, .slice ad d.length cd] 37) = w4 := ⟨_, rfl⟩
      have hg4 : wo.grownBy w4 none := by rw [← hw4]; exact gb_alloc _ _ _
      have hb4 : w4.heap[wo.heap.size]? = some (.cells #[.int .i64 op, .int .i64 n, .slice ad d.length cd] 37 (0, 0)) := by rw [← hw4]; exact heap_at_alloc _ _
      have e0 : w4.cell? ⟨wo.heap.size, 0, none⟩ = some (.int .i64 op) := cell_row hb4
      have e1 : w4.cell? ⟨wo.heap.size, 1, none⟩ = some (.int .i64 n) := cell_row hb4
      have e2 : w4.cell? ⟨wo.heap.size, 2, none⟩ = some (.slice ad d.length cd) := cell_row hb4
      have HW4 := Lib.hid hw4
      have HB4 := Lib.hid hb4
      have HG4 := Lib.hid (gb_same HG.out hg4)
      have HG4w := Lib.hid hg4
      have hds : (d.length : Int) ≤ 300 := by omega
      clear q0 q1 q2 hp hpm hw4 hg4 hb4 hop hd3
      by_cases hw : op = 1 ∨ op = 2
      · obtain ⟨F4, iv4, rv4, img, qs, hl4, hinv, hql, hF4⟩ := HI.out
        have HLT := Lib.hid hl4.lt
        have HIM := Lib.hid (image_any (hl4.grown HG4w.out (by simp)) (by have := hinv.2.2; omega))
        have HL4 := Lib.hid (hl4.grown HG4w.out (by simp))
        have HINV := Lib.hid hinv
        have HQL := Lib.hid hql
        have HF4 := Lib.hid hF4
        have HNB : Hid (d ≠ [] → ∀ j, (Value.slice ad d.length cd).ownBlock = some j → ¬ F4 j) := Lib.hid (fun hne j hj hF => by have h1 := HOP.out.1.blk hne j hj; have h2 := HF4.out j hF; omega)
        clear hl4 hinv hql hF4
        rcases hw with rfl | rfl
        · go_wp2_with fail
          rw [HW4.out]
          (with_reducible refine HIM.out.mono ?_)
          rintro e w5 ⟨v5, rfl, ho5, hg5⟩
          have HDO := Lib.hid (do_wr (HL4.out.grown hg5 (by simp)) (((1 : Int), n, d), .slice ad d.length cd) (.inl rfl) ⟨((HOP.out.1.grown HG4.out).grown hg5), HOP.out.2⟩ HNB.out HINV.out.2.2 (by have := HQL.out; have := HN.out; omega))
          have f0 := hg5.cell e0 (by simp)
          have f1 := hg5.cell e1 (by simp)
          have f2 := hg5.cell e2 (by simp)
          have HO5 := Lib.hid ho5
          have HG45 := Lib.hid hg5
          have HG5 := Lib.hid (gb_same HG4.out hg5)
          have hbx : ¬ F4 wo.heap.size := fun h => by have := HLT.out _ h; omega
          have HBX := Lib.hid hbx
          obtain ⟨a5, c5, hv5⟩ := ho5.rd.len
          subst hv5
          clear ho5 hg5 hbx e0 e1 e2
          go_wp2_with fail
          (with_reducible refine HDO.out.mono ?_)
          rintro e w6 ⟨er, rfl, (⟨hn6, her, hg6⟩ | ⟨img', r, F6, iv6, rv6, qs6, rfl, hs6, hl6, hq6, hf6⟩)⟩
          · have her2 : (er != 0) = true := by simpa using her
            have HG6 := Lib.hid hg6
            have f0 := hg6.cell f0 (by simp)
            clear hn6 hg6 f1 f2
            go_wp2_with fail
            go_roundw
            case rel => exact ⟨k + 1, by omega, by go_num, Lib.hid (HI.out.grown (gb_same HG4w.out (gb_same HG45.out HG6.out)) (Nat.le_succ k)), Lib.hid (gb_same HG5.out HG6.out)⟩
            case measure => simp [intOf]; omega
          have HST := Lib.hid (HINV.out.step hs6)
          have HS6 := Lib.hid hs6
          have HL6 := Lib.hid hl6
          have HQ6 := Lib.hid hq6
          have HFT := Lib.hid hf6
          have HG6 : Hid (w.grownBy w6 none) := Lib.hid (hf6.gb HG5.out HF4.out)
          have HF6 : Hid (∀ j, F6 j → w.heap.size ≤ j) := Lib.hid (fun j hj => by
            rcases hf6.sub j hj with h | h
            · exact HF4.out j h
            · exact Nat.le_trans HG5.out.size h)
          have HQ6L : Hid (qs6.length ≤ k + 1) := Lib.hid (by have h := congrArg List.length hq6; simp at h; have := HQL.out; omega)
          have g0 := hf6.cell f0 HBX.out
          have g1 := hf6.cell f1 HBX.out
          have g2 := hf6.cell f2 HBX.out
          clear hs6 hl6 hq6 hf6 f0 f1 f2
          obtain ⟨o, rfl, hod, rfl, rfl⟩ := wrS_write HS6.out
          have HIM2 := Lib.hid (image_any HL6.out (by have := HST.out.1.2.2; omega))
          have HPL : Hid ((putAt img o d).length = img.length) := Lib.hid (putAt_len hod)
          have HIL : Hid (img.length ≤ 24000) := Lib.hid HINV.out.2.2
          have HODL := Lib.hid hod
          have hil : (img.length : Int) ≤ 24000 := by have := HINV.out.2.2; omega
          clear HS6
          go_wp2_with fail
          (with_reducible refine HIM2.out.mono ?_)
          rintro e w7 ⟨v7, rfl, ho7, hg7⟩
          obtain ⟨a7, c7, hv7⟩ := ho7.rd.len
          rw [HPL.out] at hv7
          subst hv7
          have g0 := hg7.cell g0 (by simp)
          have g1 := hg7.cell g1 (by simp)
          have g2 := hg7.cell g2 (by simp)
          have HO7 := Lib.hid ho7
          have HG7 := Lib.hid hg7
          have HSZ : Hid (wo.heap.size < w6.heap.size ∧ w.heap.size ≤ w6.heap.size ∧ w5.heap.size ≤ w6.heap.size ∧ w4.heap.size ≤ w5.heap.size) := Lib.hid ⟨by have h1 := HFT.out.size; have h2 := HG45.out.size; have h3 := (Array.getElem?_eq_some_iff.1 HB4.out).1; omega, HG6.out.size, HFT.out.size, HG45.out.size⟩
          have HB5 := Lib.hid ((HO5.out.mono (Nat.zero_le _)))
          have HK7 : Hid (∀ X, w7.grownBy X (Value.slice a7 img.length c7).ownBlock → LogF X F6 g iv6 rv6 (putAt img o d) qs6 true ∧ w6.grownBy X none ∧ X.cell? ⟨wo.heap.size, 1, none⟩ = some (.int .i64 o) ∧ X.cell? ⟨wo.heap.size, 2, none⟩ = some (.slice ad d.length cd) ∧ Own X 0 (.slice a5 img.length c5) img) := Lib.hid (fun X hX => by
            have hr : ∀ j, (Value.slice a7 img.length c7).ownBlock = some j → w6.heap.size ≤ j := fun j hj => (HO7.out.lt j hj).1
            refine ⟨(HL6.out.grown HG7.out (by simp)).grown hX (fun j hj hF => by have h1 := hr j hj; have h2 := HL6.out.lt j hF; omega), gb_trans HG7.out hX (fun j hj => .inr (hr j hj)), hX.cell g1 (fun e => by have h1 := hr _ e.symm; have h2 := HSZ.out.1; simp at h1; omega), hX.cell g2 (fun e => by have h1 := hr _ e.symm; have h2 := HSZ.out.1; simp at h1; omega), ?_⟩
            have h5 : Own w6 0 (.slice a5 img.length c5) img := by
              rcases HB5.out.2 with ⟨h0, hz⟩ | ⟨gg, cap, cu, h0, hbb, hgg, hrest⟩
              · exact ⟨by simp [bvs], .inl ⟨h0, hz⟩⟩
              · refine ⟨by simp [bvs], .inr ⟨gg, cap, cu, h0, hbb, ?_, hrest⟩⟩
                rw [HFT.out.block gg (Array.getElem?_eq_some_iff.1 hgg).1 (fun hF => by
                  have h1 := (HO5.out.lt gg (by rw [h0]; rfl)).1
                  have h2 := HLT.out gg hF
                  have h3 := HG4w.out.size
                  omega)]
                exact hgg
            exact (h5.grown HG7.out).kept hX (fun j hj e => by
              have h1 := hr j e
              have h2 := (h5.lt j hj).2
              omega))
          go_wp2_with fail
          go_loopw [13] (fun kk wr => ∃ (j : Nat) (cur : List UInt8), kk = .int .i64 j ∧ j ≤ d.length ∧ Hid (cur.length = img.length ∧ ∀ i, ¬ (o ≤ i ∧ i < o + d.length) → gt cur i = gt img i) ∧ Hid (Own wr w6.heap.size (.slice a7 img.length c7) cur) ∧ Hid (w7.grownBy wr (Value.slice a7 img.length c7).ownBlock)) (fun kk _ => d.length - (intOf kk).toNat)
          case atStart => exact ⟨0, putAt img o d, rfl, Nat.zero_le _, Lib.hid ⟨HPL.out, fun i hi => put_gt HODL.out i hi⟩, Lib.hid HO7.out, Lib.hid (gb_refl _ _)⟩
          case round =>
            obtain ⟨j, cur, rfl, hjd, HC, HX, HGX⟩ := hrel
            have s1 := (HK7.out wr HGX.out).2.2.1
            have s2 := (HK7.out wr HGX.out).2.2.2.1
            by_cases hj1 : j < d.length
            · by_cases hj2 : j < ms.length
              · obtain ⟨m, hm⟩ : ∃ m, ms[j]? = some m := ⟨ms[j], by simp [hj2]⟩
                obtain ⟨gm, om, rfl, hmc⟩ := HM.out.at (j := j) (x := .bool m) (by rw [List.getElem?_map, hm]; rfl)
                have s3 := (gb_same HG6.out (HK7.out wr HGX.out).2.1).cell hmc (by simp)
                have hj1' : (j : Int) < d.length := by omega
                have hj2' : (j : Int) < ms.length := by omega
                clear hm hmc
                cases m
                · go_wp2_with fail
                  go_roundw
                  case rel => exact ⟨j + 1, cur, by go_num, by omega, HC, HX, HGX⟩
                  case measure => simp [intOf]; omega
                · have hbnd : o + j < img.length := by have := HODL.out; omega
                  have hob : IntKind.i64.wrap ((o : Int) + j) = (o : Int) + j := IntWalk.i64_in _ (by omega)
                  have hon : ((o : Int) + (j : Int)).toNat = o + j := by omega
                  have ho0 : 0 ≤ (o : Int) + (j : Int) := by omega
                  have hol : (o : Int) + (j : Int) < img.length := by omega
                  have hB5 := (HK7.out wr HGX.out).2.2.2.2
                  have hne : img ≠ [] := fun h => by rw [h] at hbnd; simp at hbnd
                  have hnc : cur ≠ [] := fun h => by have := HC.out.1; rw [h] at this; simp at this; omega
                  obtain ⟨gB, cB, hvB, _, _⟩ := Own.at hB5 hne
                  obtain ⟨gT, cT, hvT, hgT, _⟩ := Own.at HX.out hnc
                  simp only [Value.slice.injEq] at hvB hvT
                  obtain ⟨rfl, -, rfl⟩ := hvB
                  obtain ⟨rfl, -, rfl⟩ := hvT
                  obtain ⟨x, hx⟩ : ∃ x, img[o + j]? = some x := ⟨img[o + j], by simp [hbnd]⟩
                  have hcB := hB5.cellAt rfl (o + j) x hx
                  have hfz := HX.out.frozenAt HC.out.1 (o + j)
                  obtain ⟨y, hy⟩ : ∃ y, cur[o + j]? = some y := ⟨cur[o + j]'(by rw [HC.out.1]; exact hbnd), by simp⟩
                  have hcT := HX.out.cellAt HC.out.1 (o + j) y hy
                  have HXV : Hid (gt img (o + j) = x) := Lib.hid (by unfold gt; rw [List.getD_eq_getElem?_getD, hx]; rfl)
                  clear hB5 hne hnc hx hy
                  go_wp2_with fail
                  refine region_KL (fuel := 14) (listed := #[false, false, false, false, false, false, false, false, false, false, false, false, false, false]) (fun X => X.cell? ⟨wo.heap.size, 1, none⟩ = some (.int .i64 o) ∧ X.cell? ⟨gB, o + j, none⟩ = some (.int .u8 (x.toNat : Int))) 13 (by kernel_rfl) rfl (by kernel_rfl) ?_
                  have HS0 : wr.drew.cell? ⟨wo.heap.size, 1, none⟩ = some (.int .i64 o) ∧ wr.drew.cell? ⟨gB, o + j, none⟩ = some (.int .u8 (x.toNat : Int)) := ⟨s1, hcB⟩
                  have z1 : wr.drew.cell? ⟨gT, o + j, none⟩ = some (.int .u8 (y.toNat : Int)) := hcT
                  have z2 : wr.drew.frozen? ⟨gT, o + j, none⟩ = false := hfz
                  refine wpAnyK_takeL (i := 0) (d := 102) (v := ?_) (T' := ?_) (listed' := #[true, false, false, false, false, false, false, false, false, false, false, false, false, false]) rfl rfl (by kernel_rfl) (fun _ _ _ h => h) rfl (Or.inl ⟨by rfl, ?_⟩) ?_ HS0 ?_
                  rotate_left 2
                  · intro w hS; clear hS; go_simp; rfl
                  · simp only [List.setIfInBounds_toArray, List.set_cons_succ, List.set_cons_zero]; rfl
                  refine wpAnyK_takeL (i := 1) (d := 103) (v := ?_) (T' := ?_) (listed' := #[true, true, false, false, false, false, false, false, false, false, false, false, false, false]) rfl rfl (by kernel_rfl) (fun _ _ _ h => h) rfl (Or.inl ⟨by rfl, ?_⟩) ?_ HS0 ?_
                  rotate_left 2
                  · intro w hS; clear hS; go_simp; rfl
                  · simp only [List.setIfInBounds_toArray, List.set_cons_succ, List.set_cons_zero]; rfl
                  refine wpAnyK_takeL (i := 2) (d := 104) (v := ?_) (T' := ?_) (listed' := #[true, true, true, false, false, false, false, false, false, false, false, false, false, false]) rfl rfl (by kernel_rfl) (fun _ _ _ h => h) rfl (Or.inl ⟨by rfl, ?_⟩) ?_ HS0 ?_
                  rotate_left 2
                  · intro w hS; have t0 := hS.1; clear hS; go_simp; rfl
                  · simp only [List.setIfInBounds_toArray, List.set_cons_succ, List.set_cons_zero]; rfl
                  refine wpAnyK_takeL (i := 3) (d := 105) (v := ?_) (T' := ?_) (listed' := #[true, true, true, true, false, false, false, false, false, false, false, false, false, false]) rfl rfl (by kernel_rfl) (fun _ _ _ h => h) rfl (Or.inl ⟨by rfl, ?_⟩) ?_ HS0 ?_
                  rotate_left 2
                  · intro w hS; clear hS; go_simp; rfl
                  · simp only [List.setIfInBounds_toArray, List.set_cons_succ, List.set_cons_zero]; rfl
                  refine wpAnyK_takeL (i := 4) (d := 106) (v := ?_) (T' := ?_) (listed' := #[true, true, true, true, true, false, false, false, false, false, false, false, false, false]) rfl rfl (by kernel_rfl) (fun _ _ _ h => h) rfl (Or.inl ⟨by rfl, ?_⟩) ?_ HS0 ?_
                  rotate_left 2
                  · intro w hS; clear hS; go_simp; rfl
                  · simp only [List.setIfInBounds_toArray, List.set_cons_succ, List.set_cons_zero]; rfl
                  refine wpAnyK_takeL (i := 5) (d := 107) (v := ?_) (T' := ?_) (listed' := #[true, true, true, true, true, true, false, false, false, false, false, false, false, false]) rfl rfl (by kernel_rfl) (fun _ _ _ h => h) rfl (Or.inl ⟨by rfl, ?_⟩) ?_ HS0 ?_
                  rotate_left 2
                  · intro w hS; clear hS; go_simp; rfl
                  · simp only [List.setIfInBounds_toArray, List.set_cons_succ, List.set_cons_zero]; rfl
                  refine wpAnyK_takeL (i := 6) (d := 108) (v := ?_) (T' := ?_) (listed' := #[true, true, true, true, true, true, true, false, false, false, false, false, false, false]) rfl rfl (by kernel_rfl) (fun _ _ _ h => h) rfl (Or.inl ⟨by rfl, ?_⟩) ?_ HS0 ?_
                  rotate_left 2
                  · intro w hS; clear hS; go_simp; rfl
                  · simp only [List.setIfInBounds_toArray, List.set_cons_succ, List.set_cons_zero]; rfl
                  refine wpAnyK_takeL (i := 7) (d := 109) (v := ?_) (T' := ?_) (listed' := #[true, true, true, true, true, true, true, true, false, false, false, false, false, false]) rfl rfl (by kernel_rfl) (fun _ _ _ h => h) rfl (Or.inl ⟨by rfl, ?_⟩) ?_ HS0 ?_
                  rotate_left 2
                  · intro w hS; have t0 := hS.1; clear hS; go_simp; rfl
                  · simp only [List.setIfInBounds_toArray, List.set_cons_succ, List.set_cons_zero]; rfl
                  refine wpAnyK_takeL (i := 8) (d := 110) (v := ?_) (T' := ?_) (listed' := #[true, true, true, true, true, true, true, true, true, false, false, false, false, false]) rfl rfl (by kernel_rfl) (fun _ _ _ h => h) rfl (Or.inl ⟨by rfl, ?_⟩) ?_ HS0 ?_
                  rotate_left 2
                  · intro w hS; clear hS; go_simp; rfl
                  · simp only [List.setIfInBounds_toArray, List.set_cons_succ, List.set_cons_zero]; rfl
                  refine wpAnyK_takeL (i := 9) (d := 111) (v := ?_) (T' := ?_) (listed' := #[true, true, true, true, true, true, true, true, true, true, false, false, false, false]) rfl rfl (by kernel_rfl) (fun _ _ _ h => h) rfl (Or.inl ⟨by rfl, ?_⟩) ?_ HS0 ?_
                  rotate_left 2
                  · intro w hS; clear hS; go_simp; rfl
                  · simp only [List.setIfInBounds_toArray, List.set_cons_succ, List.set_cons_zero]; rfl
                  refine wpAnyK_takeL (i := 10) (d := 112) (v := ?_) (T' := ?_) (listed' := #[true, true, true, true, true, true, true, true, true, true, true, false, false, false]) rfl rfl (by kernel_rfl) (fun _ _ _ h => h) rfl (Or.inl ⟨by rfl, ?_⟩) ?_ HS0 ?_
                  rotate_left 2
                  · intro w hS; clear hS; go_simp; rfl
                  · simp only [List.setIfInBounds_toArray, List.set_cons_succ, List.set_cons_zero]; rfl
                  refine wpAnyK_takeL (i := 11) (d := 113) (v := ?_) (T' := ?_) (listed' := #[true, true, true, true, true, true, true, true, true, true, true, true, false, false]) rfl rfl (by kernel_rfl) (fun _ _ _ h => h) rfl (Or.inl ⟨by rfl, ?_⟩) ?_ HS0 ?_
                  rotate_left 2
                  · intro w hS; have t1 := hS.2; clear hS; go_simp; rfl
                  · simp only [List.setIfInBounds_toArray, List.set_cons_succ, List.set_cons_zero]; rfl
                  refine wpAnyK_takeL (i := 12) (d := 114) (v := ?_) (T' := ?_) (listed' := #[true, true, true, true, true, true, true, true, true, true, true, true, true, false]) rfl rfl (by kernel_rfl) (fun _ _ _ h => h) rfl (Or.inl ⟨by rfl, ?_⟩) ?_ HS0 ?_
                  rotate_left 2
                  · intro w hS; clear hS; go_simp; rfl
                  · simp only [List.setIfInBounds_toArray, List.set_cons_succ, List.set_cons_zero]; rfl
                  refine wpAnyK_oneL (i := 13) (listed' := #[true, true, true, true, true, true, true, true, true, true, true, true, true, true]) (by kernel_rfl) rfl (by rfl) rfl ?_
                  intro K hK
                  go_simp
                  refine hK _ _ (fun h => Bool.noConfusion (show true = false from h)) ?_
                  clear hK K
                  refine wpAnyK_done (by kernel_rfl) ?_ _
                  go_wp2_with fail
                  go_roundw
                  case rel => exact ⟨j + 1, cur.set (o + j) x, by go_num, by omega, Lib.hid ⟨by rw [List.length_set]; exact HC.out.1, fun i hi => by rw [gt_set i (by omega)]; exact HC.out.2 i hi⟩, Lib.hid ((HX.out.grown (gb_drew _ _)).set HC.out.1 (o + j) x), Lib.hid (gb_same (gb_same HGX.out (gb_drew _ _)) (gb_setCell _ _ _))⟩
                  case measure => simp [intOf]; omega
              · have hj1' : (j : Int) < d.length := by omega
                have hj2' : ¬ (j : Int) < ms.length := by omega
                have hLX := (HK7.out wr HGX.out).1
                have hg6x := (HK7.out wr HGX.out).2.1
                have hrl : recL cur (qs6.map (·.1)) = b := by rw [HQ6.out, recL_snoc, torn_back HODL.out HIL.out HC.out.1 HC.out.2]; exact HINV.out.1
                have hoa : okAll (qs6.map (·.1)) = true := by rw [HQ6.out]; exact HST.out.1.2.1
                have HRL := Lib.hid hrl
                have HOA := Lib.hid hoa
                have HLX := Lib.hid hLX
                have HG8 := Lib.hid (gb_same HG6.out hg6x)
                have HQN : Hid (qs6.length ≤ 1000000) := Lib.hid (by have := HQ6L.out; have := HN.out; omega)
                have HRC := Lib.hid (records_any hLX HQN.out (recs_len hoa))
                clear hLX hg6x hrl hoa
                go_wp2_with fail
                (with_reducible refine HRC.out.mono ?_)
                rintro e w8 ⟨v8, ps8, rfl, hr8, hp8, hg8, _, _⟩
                have hn8 : ps8.length = qs6.length := by have := congrArg List.length hp8; simpa using this
                obtain ⟨a8, c8, hv8⟩ := hr8.1.len
                rw [hn8] at hv8
                subst hv8
                have hrv := recover_any _ _ cur ps8 w8 (HX.out.rd.grown hg8) hr8 (by rw [HC.out.1]; have := HIL.out; omega) (by rw [hn8]; exact HQN.out)
                rw [hp8, HRL.out, HOA.out] at hrv
                have HRV := Lib.hid hrv
                have HG8b := Lib.hid hg8
                clear hr8 hp8 hg8 hn8 hrv
                go_wp2_with fail
                (with_reducible refine HRV.out.mono ?_)
                rintro e w9 ⟨v9, er9, rfl, hg9, hy9, _⟩
                obtain ⟨rfl, ho9⟩ := hy9 rfl
                obtain ⟨a9, c9, hv9⟩ := ho9.rd.len
                subst hv9
                have HO9 := Lib.hid ho9
                have HG9 := Lib.hid (gb_same HG8b.out hg9)
                have HRC2 := Lib.hid (records_any (HLX.out.grown (gb_same HG8b.out hg9) (by simp)) HQN.out (recs_len HOA.out))
                clear ho9 hg9 hy9
                go_wp2_with fail
                (with_reducible refine HRC2.out.mono ?_)
                rintro e w10 ⟨v10, ps10, rfl, hr10, hp10, hg10, _, _⟩
                have hn10 : ps10.length = qs6.length := by have := congrArg List.length hp10; simpa using this
                obtain ⟨a10, c10, hv10⟩ := hr10.1.len
                rw [hn10] at hv10
                subst hv10
                have hrv := recover_any _ _ b ps10 w10 (HO9.out.rd.grown hg10) hr10 (by have := HB1.out; omega) (by rw [hn10]; exact HQN.out)
                have htw : recL b (qs6.map (·.1)) = b := by have h := rec_twice cur HOA.out; rw [HRL.out] at h; exact h
                rw [hp10, htw, HOA.out] at hrv
                have HRV2 := Lib.hid hrv
                have HG10 := Lib.hid hg10
                clear hr10 hp10 hg10 hn10 hrv htw
                go_wp2_with fail
                (with_reducible refine HRV2.out.mono ?_)
                rintro e w11 ⟨v11, er11, rfl, hg11, hy11, _⟩
                obtain ⟨rfl, ho11⟩ := hy11 rfl
                have t9 := run_toString w11 _ _ ((HO9.out.rd.grown HG10.out).grown hg11)
                have t0 := run_toString w11 _ _ (HB.out.grown (gb_same (gb_same (gb_same HG8.out HG9.out) HG10.out) hg11))
                have t11 := run_toString w11 _ _ ho11.rd
                obtain ⟨a11, c11, hv11⟩ := ho11.rd.len
                subst hv11
                have HG11 := Lib.hid (gb_same (gb_same HG9.out HG10.out) hg11)
                clear ho11 hg11 hy11
                go_wp2_with fail
                go_roundw
                case rel => exact ⟨k + 1, by omega, by go_num, Lib.hid ⟨F6, iv6, rv6, putAt img o d, qs6, HLX.out.grown HG11.out (by simp), by rw [HQ6.out]; exact HST.out.1, HQ6L.out, HF6.out⟩, Lib.hid (gb_same HG8.out HG11.out)⟩
                case measure => simp [intOf]; omega
            · have hj1' : ¬ (j : Int) < d.length := by omega
              have hLX := (HK7.out wr HGX.out).1
              have hg6x := (HK7.out wr HGX.out).2.1
              have hrl : recL cur (qs6.map (·.1)) = b := by rw [HQ6.out, recL_snoc, torn_back HODL.out HIL.out HC.out.1 HC.out.2]; exact HINV.out.1
              have hoa : okAll (qs6.map (·.1)) = true := by rw [HQ6.out]; exact HST.out.1.2.1
              have HRL := Lib.hid hrl
              have HOA := Lib.hid hoa
              have HLX := Lib.hid hLX
              have HG8 := Lib.hid (gb_same HG6.out hg6x)
              have HQN : Hid (qs6.length ≤ 1000000) := Lib.hid (by have := HQ6L.out; have := HN.out; omega)
              have HRC := Lib.hid (records_any hLX HQN.out (recs_len hoa))
              clear hLX hg6x hrl hoa
              go_wp2_with fail
              (with_reducible refine HRC.out.mono ?_)
              rintro e w8 ⟨v8, ps8, rfl, hr8, hp8, hg8, _, _⟩
              have hn8 : ps8.length = qs6.length := by have := congrArg List.length hp8; simpa using this
              obtain ⟨a8, c8, hv8⟩ := hr8.1.len
              rw [hn8] at hv8
              subst hv8
              have hrv := recover_any _ _ cur ps8 w8 (HX.out.rd.grown hg8) hr8 (by rw [HC.out.1]; have := HIL.out; omega) (by rw [hn8]; exact HQN.out)
              rw [hp8, HRL.out, HOA.out] at hrv
              have HRV := Lib.hid hrv
              have HG8b := Lib.hid hg8
              clear hr8 hp8 hg8 hn8 hrv
              go_wp2_with fail
              (with_reducible refine HRV.out.mono ?_)
              rintro e w9 ⟨v9, er9, rfl, hg9, hy9, _⟩
              obtain ⟨rfl, ho9⟩ := hy9 rfl
              obtain ⟨a9, c9, hv9⟩ := ho9.rd.len
              subst hv9
              have HO9 := Lib.hid ho9
              have HG9 := Lib.hid (gb_same HG8b.out hg9)
              have HRC2 := Lib.hid (records_any (HLX.out.grown (gb_same HG8b.out hg9) (by simp)) HQN.out (recs_len HOA.out))
              clear ho9 hg9 hy9
              go_wp2_with fail
              (with_reducible refine HRC2.out.mono ?_)
              rintro e w10 ⟨v10, ps10, rfl, hr10, hp10, hg10, _, _⟩
              have hn10 : ps10.length = qs6.length := by have := congrArg List.length hp10; simpa using this
              obtain ⟨a10, c10, hv10⟩ := hr10.1.len
              rw [hn10] at hv10
              subst hv10
              have hrv := recover_any _ _ b ps10 w10 (HO9.out.rd.grown hg10) hr10 (by have := HB1.out; omega) (by rw [hn10]; exact HQN.out)
              have htw : recL b (qs6.map (·.1)) = b := by have h := rec_twice cur HOA.out; rw [HRL.out] at h; exact h
              rw [hp10, htw, HOA.out] at hrv
              have HRV2 := Lib.hid hrv
              have HG10 := Lib.hid hg10
              clear hr10 hp10 hg10 hn10 hrv htw
              go_wp2_with fail
              (with_reducible refine HRV2.out.mono ?_)
              rintro e w11 ⟨v11, er11, rfl, hg11, hy11, _⟩
              obtain ⟨rfl, ho11⟩ := hy11 rfl
              have t9 := run_toString w11 _ _ ((HO9.out.rd.grown HG10.out).grown hg11)
              have t0 := run_toString w11 _ _ (HB.out.grown (gb_same (gb_same (gb_same HG8.out HG9.out) HG10.out) hg11))
              have t11 := run_toString w11 _ _ ho11.rd
              obtain ⟨a11, c11, hv11⟩ := ho11.rd.len
              subst hv11
              have HG11 := Lib.hid (gb_same (gb_same HG9.out HG10.out) hg11)
              clear ho11 hg11 hy11
              go_wp2_with fail
              go_roundw
              case rel => exact ⟨k + 1, by omega, by go_num, Lib.hid ⟨F6, iv6, rv6, putAt img o d, qs6, HLX.out.grown HG11.out (by simp), by rw [HQ6.out]; exact HST.out.1, HQ6L.out, HF6.out⟩, Lib.hid (gb_same HG8.out HG11.out)⟩
              case measure => simp [intOf]; omega
        · go_wp2_with fail
          rw [HW4.out]
          (with_reducible refine HIM.out.mono ?_)
          rintro e w5 ⟨v5, rfl, ho5, hg5⟩
          have HDO := Lib.hid (do_wr (HL4.out.grown hg5 (by simp)) (((2 : Int), n, d), .slice ad d.length cd) (.inr rfl) ⟨((HOP.out.1.grown HG4.out).grown hg5), HOP.out.2⟩ HNB.out HINV.out.2.2 (by have := HQL.out; have := HN.out; omega))
          have f0 := hg5.cell e0 (by simp)
          have f1 := hg5.cell e1 (by simp)
          have f2 := hg5.cell e2 (by simp)
          have HO5 := Lib.hid ho5
          have HG45 := Lib.hid hg5
          have HG5 := Lib.hid (gb_same HG4.out hg5)
          have hbx : ¬ F4 wo.heap.size := fun h => by have := HLT.out _ h; omega
          have HBX := Lib.hid hbx
          obtain ⟨a5, c5, hv5⟩ := ho5.rd.len
          subst hv5
          clear ho5 hg5 hbx e0 e1 e2
          go_wp2_with fail
          (with_reducible refine HDO.out.mono ?_)
          rintro e w6 ⟨er, rfl, (⟨hn6, her, hg6⟩ | ⟨img', r, F6, iv6, rv6, qs6, rfl, hs6, hl6, hq6, hf6⟩)⟩
          · have her2 : (er != 0) = true := by simpa using her
            have HG6 := Lib.hid hg6
            have f0 := hg6.cell f0 (by simp)
            clear hn6 hg6 f1 f2
            go_wp2_with fail
            go_roundw
            case rel => exact ⟨k + 1, by omega, by go_num, Lib.hid (HI.out.grown (gb_same HG4w.out (gb_same HG45.out HG6.out)) (Nat.le_succ k)), Lib.hid (gb_same HG5.out HG6.out)⟩
            case measure => simp [intOf]; omega
          have HST := Lib.hid (HINV.out.step hs6)
          have HS6 := Lib.hid hs6
          have HL6 := Lib.hid hl6
          have HQ6 := Lib.hid hq6
          have HFT := Lib.hid hf6
          have HG6 : Hid (w.grownBy w6 none) := Lib.hid (hf6.gb HG5.out HF4.out)
          have HF6 : Hid (∀ j, F6 j → w.heap.size ≤ j) := Lib.hid (fun j hj => by
            rcases hf6.sub j hj with h | h
            · exact HF4.out j h
            · exact Nat.le_trans HG5.out.size h)
          have HQ6L : Hid (qs6.length ≤ k + 1) := Lib.hid (by have h := congrArg List.length hq6; simp at h; have := HQL.out; omega)
          have g0 := hf6.cell f0 HBX.out
          have g1 := hf6.cell f1 HBX.out
          have g2 := hf6.cell f2 HBX.out
          clear hs6 hl6 hq6 hf6 f0 f1 f2
          go_wp2_with fail
          go_roundw
          case rel => exact ⟨k + 1, by omega, by go_num, Lib.hid ⟨F6, iv6, rv6, img', qs6, HL6.out, by rw [HQ6.out]; exact HST.out.1, HQ6L.out, HF6.out⟩, HG6⟩
          case measure => simp [intOf]; omega
      · have o1 : (op == 1) = false := by simp; omega
        have o2 : (op == 2) = false := by simp; omega
        have o3 : (op != 1) = true := by simp; omega
        have o4 : (op != 2) = true := by simp; omega
        clear hw
        go_wp2_with fail
        go_roundw
        case rel => exact ⟨k + 1, by omega, by go_num, Lib.hid (HI.out.grown (gb_alloc _ _ _) (Nat.le_succ k)), Lib.hid (gb_same HG.out (gb_alloc _ _ _))⟩
        case measure => simp [intOf]; omega
    · obtain rfl : k = ss.length := by omega
      go_wp2
      go_ret
      exact ⟨rfl, HG.out⟩
end Go.Proofs.Ytfdkmncjcehdkaa
