/-
  law.UndoRollback: the walk.
-/
import Derived.Test.YtfdkmncjcehdkaaUPast
namespace Go.Proofs.Ytfdkmncjcehdkaa
open Go.RowKit

set_option maxRecDepth 100000 in
set_option maxHeartbeats 8000000 in
theorem undoRollback_any (vb lv : Value) (b : List UInt8) (ss : List RP) (at8 : UInt8) (w : World) (hb : Rd w vb b) (hl : RdRs w lv ss) (hok : ∀ p ∈ ss, OkP w p) : Calls Try.prog 4 #[vb, lv, .int .u8 (at8.toNat : Int)] w (BoolQ true w) := by
  have hbs := hb.small
  obtain ⟨ab, cb, rfl⟩ := hb.len
  obtain ⟨al, cl, rfl⟩ := hl.1.len
  have HW := Lib.hid (awake_any w)
  have HB := Lib.hid hb
  have HL := Lib.hid hl
  have HOK := Lib.hid hok
  have HF := Lib.hid (fun W (hW : w.grownBy W none) => sfew_any _ _ b ss W (hb.grown hW) (hl.grown hW))
  have ha8 : at8.toNat < 256 := at8.toNat_lt
  generalize at8.toNat = at8 at *
  clear hb hl hok
  cases hf : sfewB b.length (ss.map (·.1))
  · rw [hf] at HF
    clear hf
    go_enter Try.func4, Try.ntmps4
    go_wp2_with (first | (go_at_call 9; (with_reducible refine HW.out.mono ?_); go_must (rintro e w1 ⟨rfl, hg1⟩; have HG1 := Lib.hid hg1; clear hg1)) | (go_at_call 10; (with_reducible refine (HF.out _ HG1.out).mono ?_); rintro e w' ⟨rfl, rfl⟩))
    go_ret
    exact ⟨rfl, HG1.out⟩
  rw [hf] at HF
  obtain ⟨hb1, hn1, hps⟩ := sfewB_spec hf
  have HB1 := Lib.hid hb1
  have HN := Lib.hid hn1
  have HPS := Lib.hid hps
  clear hf hb1 hps
  go_enter Try.func4, Try.ntmps4
  go_wp2_with (first | (go_at_call 9; (with_reducible refine HW.out.mono ?_); go_must (rintro e w1 ⟨rfl, hg1⟩; have HG1 := Lib.hid hg1; clear hg1)) | (go_at_call 10; (with_reducible refine (HF.out _ HG1.out).mono ?_); rintro e w' ⟨rfl, rfl⟩))
  have HNEW := Lib.hid (new_any _ b w1 (HB.out.grown HG1.out) (by have := HB1.out; omega))
  (with_reducible refine HNEW.out.mono ?_)
  rintro e w2 ⟨g, F, iv, rfl, hg2, hl2, hF2⟩
  have HBG := Lib.hid (begin_any hl2)
  have HG2 := Lib.hid (gb_same HG1.out hg2)
  have HF2 := Lib.hid (fun k hk => Nat.le_trans HG1.out.size (hF2 k hk))
  clear hg2 hl2 hF2
  go_wp2_with fail
  (with_reducible refine HBG.out.mono ?_)
  rintro e w3 ⟨rfl, F3, iv3, rv3, ps3, hl3, hp3, hf3⟩
  obtain rfl : ps3 = [] := by cases ps3 with | nil => rfl | cons x xs => simp at hp3
  have HF3 : Hid (∀ j, F3 j → w.heap.size ≤ j) := Lib.hid (fun j hj => by
    rcases hf3.sub j hj with h | h
    · exact HF2.out j h
    · exact Nat.le_trans HG2.out.size h)
  have HG3 : Hid (w.grownBy w3 none) := Lib.hid (hf3.gb HG2.out HF2.out)
  have HL3 := Lib.hid hl3
  have HIM := Lib.hid (image_any hl3 (by have := HB1.out; omega))
  clear hl3 hp3 hf3
  go_wp2_with fail
  (with_reducible refine HIM.out.mono ?_)
  rintro e w4 ⟨v4, rfl, ho4, hg4⟩
  obtain ⟨a4, c4, hv4⟩ := ho4.rd.len
  subst hv4
  have HI4 : Hid (∀ W, w4.grownBy W none → ∀ cs, W = w4.alloc (.cells cs 22) → cs = #[.slice a4 b.length c4] → RbInv w b g 0 (.slice (some ⟨w4.heap.size, 0, none⟩) 1 1) W) := Lib.hid (fun W hW cs e1 e2 => by
    subst e1 e2
    refine ⟨F3, iv3, rv3, b, [], [.slice a4 b.length c4], [b], (HL3.out.grown hg4 (by simp)).grown (gb_alloc _ _ none) (by simp), PInv.first (by have := HB1.out; omega), Nat.le_refl _, HF3.out, ?_⟩
    exact Past.first (ho4.mono HG3.out.size) (fun q hq hF => by have h1 := HL3.out.lt q hF; have h2 := (ho4.lt q hq).1; omega) (Nat.le_trans HG3.out.size hg4.size) (fun hF => by have h1 := HL3.out.lt _ hF; have h2 := hg4.size; omega))
  have HG4 : Hid (w.grownBy (w4.alloc (.cells #[.slice a4 b.length c4] 22)) none) := Lib.hid (gb_same (gb_same HG3.out hg4) (gb_alloc _ _ _))
  have HI5 : Hid (RbInv w b g 0 (.slice (some ⟨w4.heap.size, 0, none⟩) 1 1) (w4.alloc (.cells #[.slice a4 b.length c4] 22))) := Lib.hid (HI4.out _ (gb_alloc _ _ _) _ rfl rfl)
  clear ho4 hg4 HI4
  go_wp2_with fail
  go_loopw [9, 10] (fun v i wr => ∃ k : Nat, k ≤ ss.length ∧ i = .int .i64 k ∧ Hid (RbInv w b g k v wr) ∧ Hid (w.grownBy wr none)) (fun _ i _ => ss.length - (intOf i).toNat)
  case atStart => exact ⟨0, Nat.zero_le _, rfl, HI5, HG4⟩
  case round =>
    obtain ⟨k, hk, rfl, HI, HG⟩ := hrel
    obtain ⟨F4, iv4, rv4, img, qs, vs, is, hl4, hinv, hql, hF4, hpast⟩ := HI.out
    obtain ⟨av, cv, hvv⟩ := hpast.len
    subst hvv
    by_cases hlt : k < ss.length
    · obtain ⟨p, hp⟩ : ∃ p, ss[k]? = some p := ⟨ss[k], by simp [hlt]⟩
      have hpm := List.mem_of_getElem? hp
      obtain ⟨gb, off, rfl, q0, q1, q2⟩ := HL.out.1.at hp
      have r0 := HG.out.cell q0 (by simp)
      have r1 := HG.out.cell q1 (by simp)
      have r2 := HG.out.cell q2 (by simp)
      have hop := HOK.out p hpm
      obtain ⟨⟨op, n, d⟩, dv⟩ := p
      obtain ⟨ad, cd, hpd⟩ := hop.1.len
      simp only at hpd r0 r1 r2
      subst hpd
      have HOP := Lib.hid hop
      obtain ⟨w5, hw5⟩ : ∃ w5, wr.alloc (.cells #[.int .i64 op, .int .i64 n, .slice ad d.length cd] 37) = w5 := ⟨_, rfl⟩
      have hg5 : wr.grownBy w5 none := by rw [← hw5]; exact gb_alloc _ _ _
      have hb5 : w5.heap[wr.heap.size]? = some (.cells #[.int .i64 op, .int .i64 n, .slice ad d.length cd] 37 (0, 0)) := by rw [← hw5]; exact heap_at_alloc _ _
      have e0 : w5.cell? ⟨wr.heap.size, 0, none⟩ = some (.int .i64 op) := cell_row hb5
      have e1 : w5.cell? ⟨wr.heap.size, 1, none⟩ = some (.int .i64 n) := cell_row hb5
      have e2 : w5.cell? ⟨wr.heap.size, 2, none⟩ = some (.slice ad d.length cd) := cell_row hb5
      have HW5 := Lib.hid hw5
      have HG5 := Lib.hid (gb_same HG.out hg5)
      have HG5w := Lib.hid hg5
      have HL4 := Lib.hid (hl4.grown hg5 (by simp))
      have HINV := Lib.hid hinv
      have HQL := Lib.hid hql
      have HF4 := Lib.hid hF4
      have HPA := Lib.hid hpast
      have HNB : Hid (d ≠ [] → ∀ j, (Value.slice ad d.length cd).ownBlock = some j → ¬ F4 j) := Lib.hid (fun hne j hj hF => by have h1 := HOP.out.1.blk hne j hj; have h2 := HF4.out j hF; omega)
      clear q0 q1 q2 hp hpm hw5 hg5 hb5 hop hl4 hinv hql hF4 hpast
      by_cases hw : op = 1 ∨ op = 2
      · have HDO := Lib.hid (do_wr HL4.out ((op, n, d), .slice ad d.length cd) hw ⟨HOP.out.1.grown HG5.out, HOP.out.2⟩ HNB.out HINV.out.2.2.2.1 (by have := HQL.out; have := HN.out; omega))
        rcases hw with rfl | rfl
        all_goals
          go_wp2_with fail
          rw [HW5.out]
          (with_reducible refine HDO.out.mono ?_)
          rintro e w6 ⟨er, rfl, (⟨hn6, her, hg6⟩ | ⟨img', r, F6, iv6, rv6, qs6, rfl, hs6, hl6, hq6, hf6⟩)⟩
          · have HG6 := Lib.hid hg6
            have her2 : (er = 0) = False := by simpa using her
            have her3 : (er != 0) = true := by simpa using her
            clear hn6 hg6
            go_wp2_with fail
            go_roundw
            case rel => exact ⟨k + 1, by omega, by go_num, Lib.hid (HI.out.grown (gb_same HG5w.out HG6.out) (Nat.le_succ k)), Lib.hid (gb_same HG5.out HG6.out)⟩
            case measure => simp [intOf]; omega
          have HST := Lib.hid (HINV.out.step hs6)
          have HL6 := Lib.hid hl6
          have HQ6 := Lib.hid hq6
          have HG6 : Hid (w.grownBy w6 none) := Lib.hid (hf6.gb HG5.out HF4.out)
          have HF6 : Hid (∀ j, F6 j → w.heap.size ≤ j) := Lib.hid (fun j hj => by
            rcases hf6.sub j hj with h | h
            · exact HF4.out j h
            · exact Nat.le_trans HG5.out.size h)
          have HPA6 := Lib.hid ((HPA.out.grown HG5w.out).foot hf6)
          have HQ6L : Hid (qs6.length ≤ k + 1) := Lib.hid (by have h := congrArg List.length hq6; simp at h; have := HQL.out; omega)
          have HVL : Hid (vs.length ≤ 1000000) := Lib.hid (by have h1 := HPA.out.2.1; have h2 := HINV.out.1; simp at h2; have := HQL.out; have := HN.out; omega)
          have HIM6 := Lib.hid (image_any hl6 (by have := HST.out.2.2.2.1; omega))
          clear hs6 hl6 hq6 hf6
          go_wp2_with fail
          (with_reducible refine HIM6.out.mono ?_)
          rintro e w7 ⟨v7, rfl, ho7, hg7⟩
          obtain ⟨a7, c7, hv7⟩ := ho7.rd.len
          subst hv7
          have HO7 := Lib.hid ho7
          have HG7 := Lib.hid hg7
          clear ho7 hg7
          go_wp2_with (at_builtin; refine past_app_step rfl (.tmp 53) (.tmp 56) rfl w.heap.size F6 (.slice av vs.length cv) vs is w7.heap.size (.slice a7 img'.length c7) img' rfl rfl ((HPA6.out.grown HG7.out).grown (gb_alloc _ _ _)) ((HO7.out.mono HG6.out.size).grown (gb_alloc _ _ _)) (fun q hq => ⟨fun hF => by have h1 := HL6.out.lt q hF; have h2 := (HO7.out.lt q hq).1; omega, fun e => by have h1 := (World.ownsRow.lt HPA6.out.1 q e).2; have h2 := (HO7.out.lt q hq).1; omega⟩) ⟨_, heap_at_alloc _ _⟩ (fun q hq => by have h1 := HL6.out.lt q hq; have h2 := HG7.out.size; simp; omega) ⟨HVL.out, by have h1 := HG6.out.size; have h2 := HG7.out.size; simp; omega⟩ ?_; go_must (intro v8 w8 h8 hg8 hl8; have HP8 := Lib.hid h8; have HG8 := Lib.hid hg8; clear h8 hg8 hl8))
          go_roundw
          case rel => exact ⟨k + 1, by omega, by go_num, Lib.hid ⟨F6, iv6, rv6, img', qs6, _, _, ((HL6.out.grown HG7.out (by simp)).grown (gb_alloc _ _ none) (by simp)).grown HG8.out (fun j hj => HPA6.out.2.2.1 j hj), by rw [HQ6.out]; exact HST.out, HQ6L.out, HF6.out, HP8.out⟩, Lib.hid (gb_trans (gb_same (gb_same HG6.out HG7.out) (gb_alloc _ _ none)) HG8.out (fun j hj => .inr (World.ownsRow.lt HPA6.out.1 j hj).1))⟩
          case measure => simp [intOf]; omega
      · have o1 : (op == 1) = false := by simp; omega
        have o2 : (op == 2) = false := by simp; omega
        clear hw
        go_wp2_with fail
        go_roundw
        case rel => exact ⟨k + 1, by omega, by go_num, Lib.hid (HI.out.grown (gb_alloc _ _ _) (Nat.le_succ k)), Lib.hid (gb_same HG.out (gb_alloc _ _ _))⟩
        case measure => simp [intOf]; omega
    · obtain rfl : k = ss.length := by omega
      have hvl : vs.length = qs.length + 1 := by rw [hpast.2.1, hinv.1]; simp
      have hlk : vs.length = qs.length + 1 := hvl
      obtain ⟨kk, hkk⟩ : ∃ kk, at8 % (qs.length + 1) = kk := ⟨_, rfl⟩
      have hkl : kk ≤ qs.length := by have := Nat.mod_lt at8 (show 0 < qs.length + 1 by omega); omega
      have hrm : ((at8 : Int) % ((qs.length : Int) + 1)) = (kk : Int) := by rw [← hkk]; simp
      have hrt : (at8 : Int).tmod ((qs.length : Int) + 1) = (kk : Int) := by rw [Int.tmod_eq_emod_of_nonneg (by omega)]; exact hrm
      have hz0 : (((qs.length : Int) + 1) == 0) = false := by simp; omega
      have hwt : IntKind.i64.wrap (at8 : Int) = (at8 : Int) := IntWalk.i64_in _ (by omega)
      obtain ⟨x, hx⟩ : ∃ x, vs[kk]? = some x := ⟨vs[kk]'(by omega), by simp⟩
      have hx2 := hinv.2.1 kk (by simpa using hkl)
      obtain ⟨R, hR⟩ : ∃ R, recL img ((qs.map (·.1)).drop kk) = R := ⟨_, rfl⟩
      rw [hR] at hx2
      obtain ⟨gp, hgp⟩ : ∃ gp, av = some ⟨gp, 0, none⟩ := by
        rcases hpast.1.2 with ⟨_, h0⟩ | ⟨gg, cap, cu, h0, _⟩
        · omega
        · simp only [Value.slice.injEq] at h0; exact ⟨gg, h0.1⟩
      subst hgp
      rw [hvl] at hpast ⊢
      have HPA := Lib.hid hpast
      have HVL := Lib.hid hvl
      have HX := Lib.hid (And.intro hx hx2)
      obtain ⟨ax, cx, hxs⟩ := (hpast.2.2.2 kk x R hx hx2).1.rd.len
      subst hxs
      have HLG := Lib.hid hl4
      have HOA := Lib.hid hinv.2.2.1
      have HKK := Lib.hid hkl
      have HQN : Hid (qs.length ≤ 1000000) := Lib.hid (by have := HN.out; omega)
      have hqn : qs.length ≤ 1000000 := HQN.out
      have HRL : Hid (R.length ≤ 24000) := Lib.hid (by rw [← hR]; exact recL_len (okAll_drop hinv.2.2.1 kk) hinv.2.2.2.1 (Nat.le_refl _))
      have HRB0 : Hid (recL R ((qs.map (·.1)).take kk) = b) := Lib.hid (by rw [← hR, rec_split]; exact hinv.2.2.2.2)
      have HRC := Lib.hid (fun W (hW : wr.grownBy W none) => records_any (hl4.grown hW (by simp)) HQN.out (recs_few hinv.2.2.1))
      have HF4 := Lib.hid hF4
      have hkk1 : kk < qs.length + 1 := by omega
      have hkk2 : (kk : Int) < (qs.length : Int) + 1 := by omega
      have hwq : IntKind.i64.wrap (qs.length : Int) = (qs.length : Int) := IntWalk.i64_in _ (by omega)
      have HBK : Hid (∀ W, wr.grownBy W none → Calls Try.prog 20 #[.pointer (some ⟨g, 0, none⟩), .int .i64 (kk : Int)] W (LogP 0 W F4 g R ((qs.map (·.1)).take kk) true)) := Lib.hid (fun W hW => by have h := back_any (hl4.grown hW (by simp)) kk hkl hinv.2.2.1 HQN.out; rw [hR] at h; exact h)
      have HTS : Hid (∀ X, w.grownBy X none → (convert 22 9 (.slice ab b.length cb)).run Try.prog X = .ok (.string (str b)) X) := Lib.hid (fun X hX => run_toString X _ _ (HB.out.grown hX))
      have HS00 := (hpast.grown (gb_drew wr none)).at hvl hx hx2
      clear hx hx2 hR hpast hinv hl4 hF4 hql hkk hvl hlk hkl
      go_wp2_with fail
      refine region_KL (fuel := 31) (listed := #[false, false, false, false, false, false, false, false, false, false, false, false, false, false, false, false, false, false, false, false, false, false, false, false, false, false, false, false, false, false, false]) (fun X => X.cell? ⟨gp, kk, none⟩ = some (.slice ax R.length cx) ∧ (convert 22 9 (.slice ax R.length cx)).run Try.prog X = .ok (.string (str R)) X) 30 (by kernel_rfl) rfl (by kernel_rfl) ?_
      have HS0 := HS00
      clear HS00
      refine wpAnyK_takeL (i := 0) (d := 63) (v := ?_) (T' := ?_) (listed' := #[true, false, false, false, false, false, false, false, false, false, false, false, false, false, false, false, false, false, false, false, false, false, false, false, false, false, false, false, false, false, false]) rfl rfl (by kernel_rfl) (fun _ _ _ h => h) rfl (Or.inl ⟨by rfl, ?_⟩) ?_ HS0 ?_
      rotate_left 2
      · intro w hS; clear hS; go_simp; rfl
      · simp only [List.setIfInBounds_toArray, List.set_cons_succ, List.set_cons_zero]; rfl
      refine wpAnyK_takeL (i := 3) (d := 66) (v := ?_) (T' := ?_) (listed' := #[true, false, false, true, false, false, false, false, false, false, false, false, false, false, false, false, false, false, false, false, false, false, false, false, false, false, false, false, false, false, false]) rfl rfl (by kernel_rfl) (fun _ _ _ h => h) rfl (Or.inl ⟨by rfl, ?_⟩) ?_ HS0 ?_
      rotate_left 2
      · intro w hS; clear hS; go_simp; rfl
      · simp only [List.setIfInBounds_toArray, List.set_cons_succ, List.set_cons_zero]; rfl
      refine wpAnyK_takeL (i := 4) (d := 67) (v := ?_) (T' := ?_) (listed' := #[true, false, false, true, true, false, false, false, false, false, false, false, false, false, false, false, false, false, false, false, false, false, false, false, false, false, false, false, false, false, false]) rfl rfl (by kernel_rfl) (fun _ _ _ h => h) rfl (Or.inl ⟨by rfl, ?_⟩) ?_ HS0 ?_
      rotate_left 2
      · intro w hS; clear hS; go_simp; rfl
      · simp only [List.setIfInBounds_toArray, List.set_cons_succ, List.set_cons_zero]; rfl
      refine wpAnyK_takeL (i := 5) (d := 68) (v := ?_) (T' := ?_) (listed' := #[true, false, false, true, true, true, false, false, false, false, false, false, false, false, false, false, false, false, false, false, false, false, false, false, false, false, false, false, false, false, false]) rfl rfl (by kernel_rfl) (fun _ _ _ h => h) rfl (Or.inl ⟨by rfl, ?_⟩) ?_ HS0 ?_
      rotate_left 2
      · intro w hS; clear hS; go_simp; rfl
      · simp only [List.setIfInBounds_toArray, List.set_cons_succ, List.set_cons_zero]; rfl
      refine wpAnyK_oneL (i := 1) (listed' := #[true, true, false, true, true, true, false, false, false, false, false, false, false, false, false, false, false, false, false, false, false, false, false, false, false, false, false, false, false, false, false]) (by kernel_rfl) rfl (by rfl) rfl ?_
      intro K hK
      go_simp
      (with_reducible refine (HRC.out _ (gb_drew _ _)).mono ?_)
      rintro e w1 ⟨v1, ps1, rfl, hr1, hp1, hg1, _, _⟩
      have hn1 : ps1.length = qs.length := by have := congrArg List.length hp1; simpa using this
      obtain ⟨a1, c1, hv1⟩ := hr1.1.len
      rw [hn1] at hv1
      subst hv1
      have HG1 : Hid (wr.grownBy w1 none) := Lib.hid (gb_same (gb_drew _ _) hg1)
      have HS1 := (HPA.out.grown HG1.out).at HVL.out HX.out.1 HX.out.2
      clear hr1 hp1 hg1 hn1
      refine hK _ _ (fun _ => HS1) ?_
      clear hK K
      refine wpAnyK_oneL (i := 2) (listed' := #[true, true, true, true, true, true, false, false, false, false, false, false, false, false, false, false, false, false, false, false, false, false, false, false, false, false, false, false, false, false, false]) (by kernel_rfl) rfl (by rfl) rfl ?_
      intro K hK
      go_simp
      refine hK _ _ (fun _ => HS1) ?_
      clear hK K
      refine wpAnyK_oneL (i := 6) (listed' := #[true, true, true, true, true, true, true, false, false, false, false, false, false, false, false, false, false, false, false, false, false, false, false, false, false, false, false, false, false, false, false]) (by kernel_rfl) rfl (by rfl) rfl ?_
      intro K hK
      go_simp
      refine hK _ _ (fun _ => HS1) ?_
      clear hK K
      refine wpAnyK_oneL (i := 7) (listed' := #[true, true, true, true, true, true, true, true, false, false, false, false, false, false, false, false, false, false, false, false, false, false, false, false, false, false, false, false, false, false, false]) (by kernel_rfl) rfl (by rfl) rfl ?_
      intro K hK
      go_simp
      refine hK _ _ (fun _ => HS1) ?_
      clear hK K
      refine wpAnyK_takeL (i := 8) (d := 71) (v := ?_) (T' := ?_) (listed' := #[true, true, true, true, true, true, true, true, true, false, false, false, false, false, false, false, false, false, false, false, false, false, false, false, false, false, false, false, false, false, false]) rfl rfl (by kernel_rfl) (fun _ _ _ h => h) rfl (Or.inl ⟨by rfl, ?_⟩) ?_ HS1 ?_
      rotate_left 2
      · intro w hS; clear hS; go_simp; rfl
      · simp only [List.setIfInBounds_toArray, List.set_cons_succ, List.set_cons_zero]; rfl
      refine wpAnyK_takeL (i := 9) (d := 72) (v := ?_) (T' := ?_) (listed' := #[true, true, true, true, true, true, true, true, true, true, false, false, false, false, false, false, false, false, false, false, false, false, false, false, false, false, false, false, false, false, false]) rfl rfl (by kernel_rfl) (fun _ _ _ h => h) rfl (Or.inl ⟨by rfl, ?_⟩) ?_ HS1 ?_
      rotate_left 2
      · intro w hS; clear hS; go_simp; rfl
      · simp only [List.setIfInBounds_toArray, List.set_cons_succ, List.set_cons_zero]; rfl
      refine wpAnyK_oneL (i := 10) (listed' := #[true, true, true, true, true, true, true, true, true, true, true, false, false, false, false, false, false, false, false, false, false, false, false, false, false, false, false, false, false, false, false]) (by kernel_rfl) rfl (by rfl) rfl ?_
      intro K hK
      go_simp
      (with_reducible refine (HBK.out _ HG1.out).mono ?_)
      rintro e w2 ⟨rfl, F5, iv5, rv5, ps5, hl5, hp5, hf5⟩
      have HL5 := Lib.hid hl5
      have HP5 := Lib.hid hp5
      have HF5 := Lib.hid hf5
      have HPA5 := Lib.hid ((HPA.out.grown HG1.out).foot hf5)
      have HS2 := HPA5.out.at HVL.out HX.out.1 HX.out.2
      have HIM := Lib.hid (image_any hl5 (by have := HRL.out; omega))
      clear hl5 hp5 hf5 HS1
      refine hK _ _ (fun _ => HS2) ?_
      clear hK K
      refine wpAnyK_oneL (i := 11) (listed' := #[true, true, true, true, true, true, true, true, true, true, true, true, false, false, false, false, false, false, false, false, false, false, false, false, false, false, false, false, false, false, false]) (by kernel_rfl) rfl (by rfl) rfl ?_
      intro K hK
      go_simp
      refine hK _ _ (fun _ => HS2) ?_
      clear hK K
      refine wpAnyK_oneL (i := 12) (listed' := #[true, true, true, true, true, true, true, true, true, true, true, true, true, false, false, false, false, false, false, false, false, false, false, false, false, false, false, false, false, false, false]) (by kernel_rfl) rfl (by rfl) rfl ?_
      intro K hK
      go_simp
      refine hK _ _ (fun _ => HS2) ?_
      clear hK K
      refine wpAnyK_oneL (i := 13) (listed' := #[true, true, true, true, true, true, true, true, true, true, true, true, true, true, false, false, false, false, false, false, false, false, false, false, false, false, false, false, false, false, false]) (by kernel_rfl) rfl (by rfl) rfl ?_
      intro K hK
      go_simp
      refine hK _ _ (fun _ => HS2) ?_
      clear hK K
      refine wpAnyK_takeL (i := 14) (d := 77) (v := ?_) (T' := ?_) (listed' := #[true, true, true, true, true, true, true, true, true, true, true, true, true, true, true, false, false, false, false, false, false, false, false, false, false, false, false, false, false, false, false]) rfl rfl (by kernel_rfl) (fun _ _ _ h => h) rfl (Or.inl ⟨by rfl, ?_⟩) ?_ HS2 ?_
      rotate_left 2
      · intro w hS; clear hS; go_simp; rfl
      · simp only [List.setIfInBounds_toArray, List.set_cons_succ, List.set_cons_zero]; rfl
      refine wpAnyK_takeL (i := 17) (d := 80) (v := ?_) (T' := ?_) (listed' := #[true, true, true, true, true, true, true, true, true, true, true, true, true, true, true, false, false, true, false, false, false, false, false, false, false, false, false, false, false, false, false]) rfl rfl (by kernel_rfl) (fun _ _ _ h => h) rfl (Or.inl ⟨by rfl, ?_⟩) ?_ HS2 ?_
      rotate_left 2
      · intro w hS; clear hS; go_simp; rfl
      · simp only [List.setIfInBounds_toArray, List.set_cons_succ, List.set_cons_zero]; rfl
      refine wpAnyK_takeL (i := 18) (d := 81) (v := ?_) (T' := ?_) (listed' := #[true, true, true, true, true, true, true, true, true, true, true, true, true, true, true, false, false, true, true, false, false, false, false, false, false, false, false, false, false, false, false]) rfl rfl (by kernel_rfl) (fun _ _ _ h => h) rfl (Or.inl ⟨by rfl, ?_⟩) ?_ HS2 ?_
      rotate_left 2
      · intro w hS; clear hS; go_simp; rfl
      · simp only [List.setIfInBounds_toArray, List.set_cons_succ, List.set_cons_zero]; rfl
      refine wpAnyK_takeL (i := 19) (d := 82) (v := ?_) (T' := ?_) (listed' := #[true, true, true, true, true, true, true, true, true, true, true, true, true, true, true, false, false, true, true, true, false, false, false, false, false, false, false, false, false, false, false]) rfl rfl (by kernel_rfl) (fun _ _ _ h => h) rfl (Or.inl ⟨by rfl, ?_⟩) ?_ HS2 ?_
      rotate_left 2
      · intro w hS; clear hS; go_simp; rfl
      · simp only [List.setIfInBounds_toArray, List.set_cons_succ, List.set_cons_zero]; rfl
      refine wpAnyK_takeL (i := 20) (d := 83) (v := ?_) (T' := ?_) (listed' := #[true, true, true, true, true, true, true, true, true, true, true, true, true, true, true, false, false, true, true, true, true, false, false, false, false, false, false, false, false, false, false]) rfl rfl (by kernel_rfl) (fun _ _ _ h => h) rfl (Or.inl ⟨by rfl, ?_⟩) ?_ HS2 ?_
      rotate_left 2
      · intro w hS; have t0 := hS.1; clear hS; go_simp; rfl
      · simp only [List.setIfInBounds_toArray, List.set_cons_succ, List.set_cons_zero]; rfl
      refine wpAnyK_takeL (i := 21) (d := 84) (v := ?_) (T' := ?_) (listed' := #[true, true, true, true, true, true, true, true, true, true, true, true, true, true, true, false, false, true, true, true, true, true, false, false, false, false, false, false, false, false, false]) rfl rfl (by kernel_rfl) (fun _ _ _ h => h) rfl (Or.inl ⟨by rfl, ?_⟩) ?_ HS2 ?_
      rotate_left 2
      · intro w hS; have t1 := hS.2; clear hS; go_simp; rfl
      · simp only [List.setIfInBounds_toArray, List.set_cons_succ, List.set_cons_zero]; rfl
      refine wpAnyK_oneL (i := 15) (listed' := #[true, true, true, true, true, true, true, true, true, true, true, true, true, true, true, true, false, true, true, true, true, true, false, false, false, false, false, false, false, false, false]) (by kernel_rfl) rfl (by rfl) rfl ?_
      intro K hK
      go_simp
      (with_reducible refine HIM.out.mono ?_)
      rintro e w3 ⟨v3, rfl, ho3, hg3⟩
      have t3 := run_toString w3 _ _ ho3.rd
      obtain ⟨a3, c3, hv3⟩ := ho3.rd.len
      subst hv3
      have HG3 := Lib.hid hg3
      have HS3 := (HPA5.out.grown HG3.out).at HVL.out HX.out.1 HX.out.2
      have HRC2 := Lib.hid (records_any (HL5.out.grown HG3.out (by simp)) (by have h := congrArg List.length HP5.out; simp at h; have := HQN.out; omega) (recs_few (by rw [HP5.out]; exact okAll_take HOA.out kk)))
      clear ho3 hg3 HS2
      refine hK _ _ (fun _ => HS3) ?_
      clear hK K
      refine wpAnyK_oneL (i := 16) (listed' := #[true, true, true, true, true, true, true, true, true, true, true, true, true, true, true, true, true, true, true, true, true, true, false, false, false, false, false, false, false, false, false]) (by kernel_rfl) rfl (by rfl) rfl ?_
      intro K hK
      go_simp
      refine hK _ _ (fun _ => HS3) ?_
      clear hK K
      refine wpAnyK_oneL (i := 22) (listed' := #[true, true, true, true, true, true, true, true, true, true, true, true, true, true, true, true, true, true, true, true, true, true, true, false, false, false, false, false, false, false, false]) (by kernel_rfl) rfl (by rfl) rfl ?_
      intro K hK
      go_simp
      refine hK _ _ (fun _ => HS3) ?_
      clear hK K
      refine wpAnyK_oneL (i := 23) (listed' := #[true, true, true, true, true, true, true, true, true, true, true, true, true, true, true, true, true, true, true, true, true, true, true, true, false, false, false, false, false, false, false]) (by kernel_rfl) rfl (by rfl) rfl ?_
      intro K hK
      go_simp
      refine hK _ _ (fun _ => HS3) ?_
      clear hK K
      refine wpAnyK_oneL (i := 24) (listed' := #[true, true, true, true, true, true, true, true, true, true, true, true, true, true, true, true, true, true, true, true, true, true, true, true, true, false, false, false, false, false, false]) (by kernel_rfl) rfl (by rfl) rfl ?_
      intro K hK
      go_simp
      refine hK _ _ (fun _ => HS3) ?_
      clear hK K
      refine wpAnyK_takeL (i := 25) (d := 88) (v := ?_) (T' := ?_) (listed' := #[true, true, true, true, true, true, true, true, true, true, true, true, true, true, true, true, true, true, true, true, true, true, true, true, true, true, false, false, false, false, false]) rfl rfl (by kernel_rfl) (fun _ _ _ h => h) rfl (Or.inl ⟨by rfl, ?_⟩) ?_ HS3 ?_
      rotate_left 2
      · intro w hS; clear hS; go_simp; rfl
      · simp only [List.setIfInBounds_toArray, List.set_cons_succ, List.set_cons_zero]; rfl
      refine wpAnyK_takeL (i := 28) (d := 91) (v := ?_) (T' := ?_) (listed' := #[true, true, true, true, true, true, true, true, true, true, true, true, true, true, true, true, true, true, true, true, true, true, true, true, true, true, false, false, true, false, false]) rfl rfl (by kernel_rfl) (fun _ _ _ h => h) rfl (Or.inl ⟨by rfl, ?_⟩) ?_ HS3 ?_
      rotate_left 2
      · intro w hS; clear hS; go_simp; rfl
      · simp only [List.setIfInBounds_toArray, List.set_cons_succ, List.set_cons_zero]; rfl
      refine wpAnyK_oneL (i := 26) (listed' := #[true, true, true, true, true, true, true, true, true, true, true, true, true, true, true, true, true, true, true, true, true, true, true, true, true, true, true, false, true, false, false]) (by kernel_rfl) rfl (by rfl) rfl ?_
      intro K hK
      go_simp
      (with_reducible refine HRC2.out.mono ?_)
      rintro e w4 ⟨v4, ps4, rfl, hr4, hp4, hg4, _, _⟩
      have hn4 : ps4.length = kk := by have h := congrArg List.length hp4; rw [HP5.out] at h; simp at h; have := HKK.out; omega
      obtain ⟨a4, c4, hv4⟩ := hr4.1.len
      rw [hn4] at hv4
      subst hv4
      have HG4 := Lib.hid (gb_same HG3.out hg4)
      have HS4 := (HPA5.out.grown HG4.out).at HVL.out HX.out.1 HX.out.2
      clear hr4 hp4 hg4 hn4 HS3 t3
      refine hK _ _ (fun _ => HS4) ?_
      clear hK K
      refine wpAnyK_oneL (i := 27) (listed' := #[true, true, true, true, true, true, true, true, true, true, true, true, true, true, true, true, true, true, true, true, true, true, true, true, true, true, true, true, true, false, false]) (by kernel_rfl) rfl (by rfl) rfl ?_
      intro K hK
      go_simp
      refine hK _ _ (fun _ => HS4) ?_
      clear hK K
      refine wpAnyK_oneL (i := 29) (listed' := #[true, true, true, true, true, true, true, true, true, true, true, true, true, true, true, true, true, true, true, true, true, true, true, true, true, true, true, true, true, true, false]) (by kernel_rfl) rfl (by rfl) rfl ?_
      intro K hK
      go_simp
      refine hK _ _ (fun _ => HS4) ?_
      clear hK K
      refine wpAnyK_oneL (i := 30) (listed' := #[true, true, true, true, true, true, true, true, true, true, true, true, true, true, true, true, true, true, true, true, true, true, true, true, true, true, true, true, true, true, true]) (by kernel_rfl) rfl (by rfl) rfl ?_
      intro K hK
      go_simp
      refine hK _ _ (fun h => Bool.noConfusion (show true = false from h)) ?_
      clear hK K
      refine wpAnyK_done (by kernel_rfl) ?_ _
      have HG5 : Hid (w.grownBy w4 none) := Lib.hid (gb_same (HF5.out.gb (gb_same HG.out HG1.out) HF4.out) HG4.out)
      have HF5w : Hid (∀ j, F5 j → w.heap.size ≤ j) := Lib.hid (fun j hj => by
        rcases HF5.out.sub j hj with h | h
        · exact HF4.out j h
        · exact Nat.le_trans (gb_same HG.out HG1.out).size h)
      have HRB : Hid (∀ W, w4.grownBy W none → Calls Try.prog 21 #[.pointer (some ⟨g, 0, none⟩)] W (LogP 0 W F5 g b [] false)) := Lib.hid (fun W hW => by
        have h := rollback_any ((HL5.out.grown HG4.out (by simp)).grown hW (by simp)) (by rw [HP5.out]; exact okAll_take HOA.out kk) (by have h := congrArg List.length HP5.out; simp at h; have := HQN.out; omega)
        rw [HP5.out, HRB0.out] at h
        exact h)
      have SS0 := HTS.out w4.drew (gb_same HG5.out (gb_drew _ _))
      clear HS4
      go_wp2_with fail
      refine region_KL (fuel := 17) (listed := #[false, false, false, false, false, false, false, false, false, false, false, false, false, false, false, false, false]) (fun X => (convert 22 9 (.slice ab b.length cb)).run Try.prog X = .ok (.string (str b)) X) 16 (by kernel_rfl) rfl (by kernel_rfl) ?_
      refine wpAnyK_takeL (i := 0) (d := 94) (v := ?_) (T' := ?_) (listed' := #[true, false, false, false, false, false, false, false, false, false, false, false, false, false, false, false, false]) rfl rfl (by kernel_rfl) (fun _ _ _ h => h) rfl (Or.inl ⟨by rfl, ?_⟩) ?_ SS0 ?_
      rotate_left 2
      · intro w hS; clear hS; go_simp; rfl
      · simp only [List.setIfInBounds_toArray, List.set_cons_succ, List.set_cons_zero]; rfl
      refine wpAnyK_oneL (i := 1) (listed' := #[true, true, false, false, false, false, false, false, false, false, false, false, false, false, false, false, false]) (by kernel_rfl) rfl (by rfl) rfl ?_
      intro K hK
      go_simp
      (with_reducible refine (HRB.out _ (gb_drew _ _)).mono ?_)
      rintro e w6 ⟨rfl, F6, iv6, rv6, ps6, hl6, hp6, hf6⟩
      have HG6 : Hid (w.grownBy w6 none) := Lib.hid (hf6.gb (gb_same HG5.out (gb_drew _ _)) HF5w.out)
      have SS6 := HTS.out w6 HG6.out
      have HIM6 := Lib.hid (image_any hl6 (by have := HB1.out; omega))
      have HOP6 := Lib.hid (fun W (hW : w6.grownBy W none) => open_any (hl6.grown hW (by simp)))
      clear hl6 hp6 hf6
      refine hK _ _ (fun _ => SS6) ?_
      clear hK K
      refine wpAnyK_oneL (i := 2) (listed' := #[true, true, true, false, false, false, false, false, false, false, false, false, false, false, false, false, false]) (by kernel_rfl) rfl (by rfl) rfl ?_
      intro K hK
      go_simp
      refine hK _ _ (fun _ => SS6) ?_
      clear hK K
      refine wpAnyK_oneL (i := 3) (listed' := #[true, true, true, true, false, false, false, false, false, false, false, false, false, false, false, false, false]) (by kernel_rfl) rfl (by rfl) rfl ?_
      intro K hK
      go_simp
      refine hK _ _ (fun _ => SS6) ?_
      clear hK K
      refine wpAnyK_takeL (i := 4) (d := 98) (v := ?_) (T' := ?_) (listed' := #[true, true, true, true, true, false, false, false, false, false, false, false, false, false, false, false, false]) rfl rfl (by kernel_rfl) (fun _ _ _ h => h) rfl (Or.inl ⟨by rfl, ?_⟩) ?_ SS6 ?_
      rotate_left 2
      · intro w hS; clear hS; go_simp; rfl
      · simp only [List.setIfInBounds_toArray, List.set_cons_succ, List.set_cons_zero]; rfl
      refine wpAnyK_takeL (i := 7) (d := 101) (v := ?_) (T' := ?_) (listed' := #[true, true, true, true, true, false, false, true, false, false, false, false, false, false, false, false, false]) rfl rfl (by kernel_rfl) (fun _ _ _ h => h) rfl (Or.inl ⟨by rfl, ?_⟩) ?_ SS6 ?_
      rotate_left 2
      · intro w hS; clear hS; go_simp; rfl
      · simp only [List.setIfInBounds_toArray, List.set_cons_succ, List.set_cons_zero]; rfl
      refine wpAnyK_takeL (i := 8) (d := 102) (v := ?_) (T' := ?_) (listed' := #[true, true, true, true, true, false, false, true, true, false, false, false, false, false, false, false, false]) rfl rfl (by kernel_rfl) (fun _ _ _ h => h) rfl (Or.inl ⟨by rfl, ?_⟩) ?_ SS6 ?_
      rotate_left 2
      · intro w hS; have t1 := hS; clear hS; go_simp; rfl
      · simp only [List.setIfInBounds_toArray, List.set_cons_succ, List.set_cons_zero]; rfl
      refine wpAnyK_oneL (i := 5) (listed' := #[true, true, true, true, true, true, false, true, true, false, false, false, false, false, false, false, false]) (by kernel_rfl) rfl (by rfl) rfl ?_
      intro K hK
      go_simp
      (with_reducible refine HIM6.out.mono ?_)
      rintro e w7 ⟨v7, rfl, ho7, hg7⟩
      have t7 := run_toString w7 _ _ ho7.rd
      obtain ⟨a7, c7, hv7⟩ := ho7.rd.len
      subst hv7
      have HG7 := Lib.hid hg7
      have SS7 := HTS.out w7 (gb_same HG6.out hg7)
      clear ho7 hg7 SS6
      refine hK _ _ (fun _ => SS7) ?_
      clear hK K
      refine wpAnyK_oneL (i := 6) (listed' := #[true, true, true, true, true, true, true, true, true, false, false, false, false, false, false, false, false]) (by kernel_rfl) rfl (by rfl) rfl ?_
      intro K hK
      go_simp
      refine hK _ _ (fun _ => SS7) ?_
      clear hK K
      refine wpAnyK_oneL (i := 9) (listed' := #[true, true, true, true, true, true, true, true, true, true, false, false, false, false, false, false, false]) (by kernel_rfl) rfl (by rfl) rfl ?_
      intro K hK
      go_simp
      refine hK _ _ (fun _ => SS7) ?_
      clear hK K
      refine wpAnyK_oneL (i := 10) (listed' := #[true, true, true, true, true, true, true, true, true, true, true, false, false, false, false, false, false]) (by kernel_rfl) rfl (by rfl) rfl ?_
      intro K hK
      go_simp
      refine hK _ _ (fun _ => SS7) ?_
      clear hK K
      refine wpAnyK_oneL (i := 11) (listed' := #[true, true, true, true, true, true, true, true, true, true, true, true, false, false, false, false, false]) (by kernel_rfl) rfl (by rfl) rfl ?_
      intro K hK
      go_simp
      refine hK _ _ (fun _ => SS7) ?_
      clear hK K
      refine wpAnyK_oneL (i := 12) (listed' := #[true, true, true, true, true, true, true, true, true, true, true, true, true, false, false, false, false]) (by kernel_rfl) rfl (by rfl) rfl ?_
      intro K hK
      go_simp
      refine hK _ _ (fun _ => SS7) ?_
      clear hK K
      refine wpAnyK_oneL (i := 13) (listed' := #[true, true, true, true, true, true, true, true, true, true, true, true, true, true, false, false, false]) (by kernel_rfl) rfl (by rfl) rfl ?_
      intro K hK
      go_simp
      (with_reducible refine (HOP6.out _ HG7.out).mono ?_)
      rintro e w' ⟨rfl, rfl⟩
      refine hK _ _ (fun _ => SS7) ?_
      clear hK K
      refine wpAnyK_oneL (i := 14) (listed' := #[true, true, true, true, true, true, true, true, true, true, true, true, true, true, true, false, false]) (by kernel_rfl) rfl (by rfl) rfl ?_
      intro K hK
      go_simp
      refine hK _ _ (fun _ => SS7) ?_
      clear hK K
      refine wpAnyK_oneL (i := 15) (listed' := #[true, true, true, true, true, true, true, true, true, true, true, true, true, true, true, true, false]) (by kernel_rfl) rfl (by rfl) rfl ?_
      intro K hK
      go_simp
      refine hK _ _ (fun _ => SS7) ?_
      clear hK K
      refine wpAnyK_oneL (i := 16) (listed' := #[true, true, true, true, true, true, true, true, true, true, true, true, true, true, true, true, true]) (by kernel_rfl) rfl (by rfl) rfl ?_
      intro K hK
      go_simp
      refine hK _ _ (fun h => Bool.noConfusion (show true = false from h)) ?_
      clear hK K
      refine wpAnyK_done (by kernel_rfl) ?_ _
      go_wp2
      go_ret
      exact ⟨rfl, gb_same HG6.out HG7.out⟩
end Go.Proofs.Ytfdkmncjcehdkaa
