/-
  law.WirePrefix: the walk.
-/
import Derived.Test.YtgfopepopcacmaaPreMath
import Derived.Test.YtgfopepopcacmaaFewE
import Derived.Test.YtgfopepopcacmaaCanon
namespace Go.Proofs.Ytgfopepopcacmaa
open Go.RowKit

/-- an encoding in hand, of which every beginning can be read -/
def CutPost (w : World) (l : List UInt8) (e : Ending) (w' : World) : Prop :=
  ∃ b off cap, e = .returned (.slice (some ⟨b, off, none⟩) l.length cap) ∧ l.length ≤ cap ∧ cap ≤ maxLen ∧ w.grownBy w' none ∧ b < w'.heap.size ∧ ∀ k, k ≤ l.length → Rd w' (.slice (some ⟨b, off, none⟩) k cap) (l.take k)
theorem cut_of {w w' : World} {l : List UInt8} {e : Ending} (hl : 0 < l.length) (h : EncPost w l e w') : CutPost w l e w' := by
  obtain ⟨v, rfl, ho, hg⟩ := h
  have hlt := ho.lt
  rcases ho.rd with ⟨_, h1⟩ | ⟨b, off, cap, rfl, h1, h2, h3⟩
  · rw [h1] at hl; simp at hl
  · refine ⟨b, off, cap, rfl, h1, h2, hg, (hlt b rfl).2, fun k hk => .inr ⟨b, off, cap, ?_, by rw [List.length_take]; omega, h2, fun j x hj => h3 j x ?_⟩⟩
    · rw [List.length_take, Nat.min_eq_left hk]
    · rw [List.getElem?_take] at hj
      split at hj
      · exact hj
      · cases hj
theorem int_cut (z : Int) (w : World) (hz : OkI z) : Calls Try.prog 20 #[.slice none 0 0, .int .i64 z] w (CutPost w (enc z)) := by
  refine (int_any (.slice none 0 0) z w w.heap.size [] hz.1 hz.2 (Own.nil _ _) (Nat.le_refl _) (by simp)).mono ?_
  rintro e w' ⟨v', rfl, ho, hg, _⟩
  exact cut_of (enc_len z).1 ⟨v', rfl, ho, hg⟩
theorem encEs_len {xs : List EffT} (h : ∀ x ∈ xs, OkE x) : (encEs xs).length ≤ 10 + 150 * xs.length + (xs.map fun x => x.2.1.2.length + x.2.2.length).sum := by
  have h0 := (enc_len (xs.length : Int)).2
  have h1 : ∀ ys : List EffT, (∀ x ∈ ys, OkE x) → (ys.flatMap encEE).length ≤ 150 * ys.length + (ys.map fun x => x.2.1.2.length + x.2.2.length).sum := by
    intro ys
    induction ys with
    | nil => intro _; simp
    | cons y ys ih =>
      intro hy
      have h2 := ih (fun x hx => hy x (by simp [hx]))
      obtain ⟨h3, h4, _⟩ := hy y (by simp)
      have h5 := encL_len y.1
      have h6 := encL_len y.2.1.1
      have h7 := encS_len y.2.1.2
      have h8 := encS_len y.2.2
      rw [List.flatMap_cons, List.map_cons, List.sum_cons, List.length_append, List.length_cons]
      have h9 : (encEE y).length = (encL y.1).length + ((encL y.2.1.1).length + (encS y.2.1.2).length) + (encS y.2.2).length := by unfold encEE encMM; simp only [List.length_append]
      omega
  have h2 := h1 xs h
  unfold encEs
  rw [List.length_append]
  omega
theorem effs_cut (lv : Value) (ps : List EffP) (w : World) (hl : RdEs w lv ps) (hn : ps.length ≤ 170) (hd : dataN ps ≤ 20000) :
    Calls Try.prog 37 #[.slice none 0 0, lv] w (CutPost w (encEs (ps.map (·.1)))) ∧ (encEs (ps.map (·.1))).length ≤ 1000000 := by
  have h1 := encEs_len (xs := ps.map (·.1)) (fun x hx => by
    obtain ⟨p, hp, rfl⟩ := List.mem_map.1 hx
    exact (hl.2 p hp).1)
  rw [List.map_map, List.length_map] at h1
  have h2 : (encEs (ps.map (·.1))).length ≤ 1000000 := by
    refine Nat.le_trans h1 ?_
    unfold dataN at hd
    have : (ps.map ((fun x : EffT => x.2.1.2.length + x.2.2.length) ∘ (·.1))).sum ≤ 20000 := hd
    omega
  refine ⟨(weffects_any lv ps w hl h2 (by omega)).mono fun e w' h => cut_of ?_ h, h2⟩
  unfold encEs
  have := (enc_len ((ps.map (·.1)).length : Int)).1
  rw [List.length_append]
  omega

theorem dataN_mem : ∀ {ps : List EffP} {p : EffP}, p ∈ ps → p.1.2.1.2.length + p.1.2.2.length ≤ dataN ps := by
  intro ps
  induction ps with
  | nil => intro p hp; simp at hp
  | cons q ps ih =>
    intro p hp
    have e : dataN (q :: ps) = (q.1.2.1.2.length + q.1.2.2.length) + dataN ps := rfl
    rcases List.mem_cons.1 hp with rfl | hp
    · omega
    · have := ih hp
      omega
theorem msg_cut (z0 z1 z2 z3 z4 z5 z6 z7 : Int) (mv : Value) (l : List UInt8) (w : World) (hz : ∀ z ∈ [z0, z1, z2, z3, z4, z5, z6, z7], OkI z) (hd : RdW w mv l) (hl : l.length ≤ 20000) :
    Calls Try.prog 36 #[.slice none 0 0, .agg #[.int .i64 z0, .int .i64 z1, .int .i64 z2, .int .i64 z3, .int .i64 z4, .int .i64 z5, .int .i64 z6, .int .i64 z7, mv]] w (CutPost w (encMM ([z0, z1, z2, z3, z4, z5, z6, z7], l))) := by
  refine (wmsgW_any (.slice none 0 0) mv w w.heap.size [] l z0 z1 z2 z3 z4 z5 z6 z7 (Own.nil _ _) hd (Nat.le_refl _) hz (by simp [Value.ownBlock]) (by simp) (by omega)).mono ?_
  rintro e w' ⟨v', rfl, ho, hg, _⟩
  have e : encMM ([z0, z1, z2, z3, z4, z5, z6, z7], l) = [] ++ encM [z0, z1, z2, z3] [z4, z5, z6, z7] l := by simp [encMM, encM, encL]
  refine cut_of ?_ ⟨v', rfl, by rw [e]; exact ho, hg⟩
  unfold encMM encS
  have := (enc_len (l.length : Int)).1
  simp only [List.length_append]
  omega
set_option maxRecDepth 100000 in
set_option maxHeartbeats 8000000 in
theorem wirePre_any (n : Int) (lv : Value) (at_ : Int) (ps : List EffP) (w : World) (hn : OkI n) (hat : 0 ≤ at_ ∧ at_ ≤ 65535) (hl : RdEs w lv ps) (hr : ∀ p ∈ ps, p.1.2.1.2.length ≤ reachBytes ∧ p.1.2.2.length ≤ reachBytes) :
    Calls Try.prog 6 #[.int .i64 n, lv, .int .u16 at_] w (BoolQ true w) := by
  obtain ⟨a0, c0, rfl⟩ := hl.len
  have hmx := hl.max
  have HL := Lib.hid hl
  have HF : Hid (∀ W, w.grownBy W none → Calls Try.prog 39 #[.slice a0 ps.length c0] W (FewPost W ps)) := Lib.hid (fun W hW => fewE_any _ ps W (HL.out.grown hW) hr)
  clear hl hr
  go_enter Try.func6, Try.ntmps6
  go_wp2_with fail
  refine (awake_any _).mono ?_
  rintro e w0 ⟨rfl, g0⟩
  have HF1 := Lib.hid (HF.out w0 g0)
  have G0 := Lib.hid g0
  clear g0 HF
  go_wp2_with fail
  refine HF1.out.mono ?_
  rintro e w1 ⟨r, rfl, g1, hfew⟩
  have G1 := Lib.hid (gb_same G0.out g1)
  clear g1 HF1
  cases r with
  | false =>
    go_wp2
    go_ret
    exact ⟨rfl, G1.out⟩
  | true =>
    obtain ⟨h170, h20⟩ := hfew rfl
    have HI := Lib.hid (int_cut n w1 hn)
    have HE : Hid (∀ W, w.grownBy W none → Calls Try.prog 37 #[.slice none 0 0, .slice a0 ps.length c0] W (CutPost W (encEs (ps.map (·.1))))) := Lib.hid (fun W hW => (effs_cut _ ps W (HL.out.grown hW) h170 h20).1)
    have HEL := (effs_cut _ ps w HL.out h170 h20).2
    go_wp2_with fail
    refine HI.out.mono ?_
    rintro e w2 ⟨ab, ao, ac, rfl, ha1, ha2, g2, _, ha⟩
    have HA := Lib.hid ha
    have HE2 := Lib.hid (HE.out w2 (gb_same G1.out g2))
    have G2 := Lib.hid (gb_same G1.out g2)
    clear ha g2 HE HI
    go_wp2_with fail
    refine HE2.out.mono ?_
    rintro e w3 ⟨bb, bo, bc, rfl, hb1, hb2, g3, hbb, hb⟩
    have HB := Lib.hid hb
    have HA3 : Hid (∀ k, k ≤ (enc n).length → Rd w3 (.slice (some ⟨ab, ao, none⟩) k ac) ((enc n).take k)) := Lib.hid (fun k hk => (HA.out k hk).grown g3)
    have G3 := Lib.hid (gb_same G2.out g3)
    clear hb g3 HE2 HA
    obtain ⟨L, hL⟩ : ∃ L, encEs (ps.map (·.1)) = L := ⟨_, rfl⟩
    rw [hL] at hb1 HB HEL
    obtain ⟨M, hM⟩ : ∃ M, L.length = M + 1 := ⟨L.length - 1, by rw [← hL]; unfold encEs; have := (enc_len ((ps.map (·.1)).length : Int)).1; rw [List.length_append]; omega⟩
    obtain ⟨N, hN⟩ : ∃ N, (enc n).length = N + 1 := ⟨(enc n).length - 1, by have := (enc_len n).1; omega⟩
    have hN10 : N ≤ 9 := by have := (enc_len n).2; omega
    rw [hM] at hb1 HB HEL
    rw [hN] at ha1 HA3
    rw [hL, hM, hN]
    obtain ⟨j, hj⟩ : ∃ j : Nat, at_ = j := ⟨at_.toNat, by omega⟩
    subst hj
    have hk1 : j % (N + 1) < N + 1 := Nat.mod_lt _ (by omega)
    have hk2 : j % (M + 1) < M + 1 := Nat.mod_lt _ (by omega)
    have hk3 : 0 ≤ (j : Int) % ((N : Int) + 1) ∧ (j : Int) % ((N : Int) + 1) ≤ ac := by
      have e : (j : Int) % ((N : Int) + 1) = ((j % (N + 1) : Nat) : Int) := by push_cast; rfl
      rw [e]; omega
    have hk4 : 0 ≤ (j : Int) % ((M : Int) + 1) ∧ (j : Int) % ((M : Int) + 1) ≤ bc := by
      have e : (j : Int) % ((M : Int) + 1) = ((j % (M + 1) : Nat) : Int) := by push_cast; rfl
      rw [e]; omega
    have hn0 : ((N : Int) + 1 == 0) = false := by simp; omega
    have hm0 : ((M : Int) + 1 == 0) = false := by simp; omega
    have hR := read_any _ _ w3 (HA3.out (j % (N + 1)) (by omega)) (by rw [List.length_take]; omega)
    have HR := Lib.hid hR
    clear hR
    unfold maxLen at ha2 hb2
    go_wp2_with fail
    refine HR.out.mono ?_
    rintro e w4 ⟨b, sl, rfl, hbge, hR4, g4, _⟩
    have hwb : w.heap.size ≤ b := Nat.le_trans G3.out.size hbge
    have HINT := Lib.hid (by have := rint_any b sl _ 0 w4 hR4; rw [rdInt_cut hn (by omega)] at this; exact this)
    have G4 := Lib.hid (gb_same G3.out g4)
    have HB4 : Hid (∀ k, k ≤ M + 1 → Rd w4 (.slice (some ⟨bb, bo, none⟩) k bc) (L.take k)) := Lib.hid (fun k hk => (HB.out k hk).grown g4)
    have hbs : b ≠ bb := by omega
    clear hR4 g4 HR HB hbge
    go_wp2_with (first | (go_at_call 40; refine HINT.out.mono ?_; go_must (rintro e w5 ⟨rfl, hR5, g5⟩; have HEN := Lib.hid (by have := end_any b sl _ 0 true w5 hR5; rw [end_no (.inl rfl)] at this; exact this); have G5 : Hid (w.grownBy w5 none) := Lib.hid (gb_new G4.out g5 hwb); have HB5 : Hid (∀ k, k ≤ M + 1 → Rd w5 (.slice (some ⟨bb, bo, none⟩) k bc) (L.take k)) := Lib.hid (fun k hk => (HB4.out k hk).kept g5 (fun k2 hk2 e => hbs ((Option.some.inj e).trans (Option.some.inj hk2).symm))); clear hR5 g5)) | (go_at_call 14; refine HEN.out.mono ?_; go_must (rintro e w6 ⟨rfl, nq, hw6⟩; have G6 : Hid (w.grownBy w6 none) := Lib.hid (by rw [hw6]; exact gb_same G5.out (gb_drewN _ _ _)); have HB6 : Hid (∀ k, k ≤ M + 1 → Rd w6 (.slice (some ⟨bb, bo, none⟩) k bc) (L.take k)) := Lib.hid (fun k hk => (HB5.out k hk).kept (by rw [hw6]; exact gb_drewN _ _ none) (by simp)); clear hw6)))
    have HRE : Hid (Calls Try.prog 34 #[.slice (some ⟨bb, bo, none⟩) (j % (M + 1)) bc] w6 fun e w' => e = .returned (.tuple #[.slice none 0 0, .int .i64 4]) ∧ w6.grownBy w' none) := Lib.hid (by
      have h1 := readEffects_any _ _ w6 (HB6.out (j % (M + 1)) (by omega)) (by rw [List.length_take]; omega)
      have h2 : wholeO (rdLE 160 (L.take (j % (M + 1))) 0) (L.take (j % (M + 1))).length = none := by
        rw [← hL]
        refine rdLE_cut (by rw [List.length_map]; omega) (fun x hx => ?_) (by rw [hL, hM]; omega) (by rw [hL, hM]; omega)
        obtain ⟨p, hp, rfl⟩ := List.mem_map.1 hx
        exact (HL.out.2 p hp).1
      rw [h2] at h1
      exact h1)
    refine HRE.out.mono ?_
    rintro e w7 ⟨rfl, g7⟩
    have G7 := Lib.hid (gb_same G6.out g7)
    clear g7 HRE HB6
    have hr20 : ∀ p ∈ ps, p.1.2.1.2.length ≤ 20000 := fun p hp => by have := dataN_mem hp; omega
    clear HB5 HB4 HA3 HEN HINT hL
    go_wp2
    go_loopw [12] (fun k wr => ∃ i : Nat, k = .int .i64 (i : Int) ∧ i ≤ 3 ∧ w.grownBy wr none) (fun k _ => 3 - (intOf k).toNat)
    case atStart => exact ⟨0, rfl, by omega, G7.out⟩
    case round =>
      obtain ⟨i, rfl, hi, hg⟩ := hrel
      have HG := Lib.hid hg
      clear hg
      by_cases hlt : i < ps.length
      · by_cases hlt3 : i < 3
        · obtain ⟨p, hp⟩ : ∃ p, ps[i]? = some p := ⟨ps[i], by simp⟩
          obtain ⟨gb, off, rfl, hrange⟩ := HL.out.at hp
          obtain ⟨⟨hx5, hx8, _, hz8⟩, _, _, hrm, hrd⟩ := HL.out.2 p (List.mem_of_getElem? hp)
          have h2k := hr20 p (List.mem_of_getElem? hp)
          obtain ⟨⟨xz, ⟨xm, xl⟩, xd⟩, mv, dv⟩ := p
          simp only at hx5 hx8 hrm hrd hrange h2k hz8
          match xz, hx5, xm, hx8 with
          | [k, a, b, c, d], _, [m0, m1, m2, m3, m4, m5, m6, m7], _ =>
          obtain ⟨am, cm, rfl⟩ := hrm.len
          have HRNG : Hid (wr.rangeAt gb (off + i * 15 + 5) [.int .i64 m0, .int .i64 m1, .int .i64 m2, .int .i64 m3, .int .i64 m4, .int .i64 m5, .int .i64 m6, .int .i64 m7, .slice am xl.length cm]) := Lib.hid (fun j v hv => by
            have h9 := HG.out.cell (hrange (5 + j) v (by
              have hj := (List.getElem?_eq_some_iff.1 hv).1
              simp only [List.length_cons, List.length_nil] at hj
              obtain rfl | rfl | rfl | rfl | rfl | rfl | rfl | rfl | rfl : j = 0 ∨ j = 1 ∨ j = 2 ∨ j = 3 ∨ j = 4 ∨ j = 5 ∨ j = 6 ∨ j = 7 ∨ j = 8 := by omega
              all_goals exact hv)) (by simp)
            rw [Nat.add_assoc (off + i * 15)]
            exact h9)
          have HM := Lib.hid (msg_cut m0 m1 m2 m3 m4 m5 m6 m7 (.slice am xl.length cm) xl wr hz8 (hrm.grown HG.out) h2k)
          have hmpos : 1 ≤ (encMM ([m0, m1, m2, m3, m4, m5, m6, m7], xl)).length := by
            unfold encMM encS
            have := (enc_len (xl.length : Int)).1
            simp only [List.length_append]
            omega
          have hmle : (encMM ([m0, m1, m2, m3, m4, m5, m6, m7], xl)).length ≤ 30000 := by
            have h1 := encL_len [m0, m1, m2, m3, m4, m5, m6, m7]
            have h2 := encS_len xl
            unfold encMM
            simp only [List.length_append, List.length_cons, List.length_nil] at h1 ⊢
            omega
          have HCUT : Hid (∀ k, k < (encMM ([m0, m1, m2, m3, m4, m5, m6, m7], xl)).length → wholeO (rdM ((encMM ([m0, m1, m2, m3, m4, m5, m6, m7], xl)).take k) 0) ((encMM ([m0, m1, m2, m3, m4, m5, m6, m7], xl)).take k).length = none) := Lib.hid (fun k hk => rdM_cut rfl hz8 (by simp only; omega) hk)
          generalize encMM ([m0, m1, m2, m3, m4, m5, m6, m7], xl) = E at *
          obtain ⟨K, hK⟩ : ∃ K, E.length = K + 1 := ⟨E.length - 1, by omega⟩
          clear hrange hrm hrd hp hz8
          go_wp2_with (first | ((with_reducible refine is_load 57 85 84 ?_); go_must (refine wpList_load_mid rfl 57 (.tmp 84) rfl gb (off + i * 15 + 5) rfl [.int .i64 m0, .int .i64 m1, .int .i64 m2, .int .i64 m3, .int .i64 m4, .int .i64 m5, .int .i64 m6, .int .i64 m7, .slice am xl.length cm] _ HRNG.out Try.underlying57 rfl sz_msg ?_)))
          refine HM.out.mono ?_
          rintro e w8 ⟨mb, mo, mc, rfl, hm1, hm2, g8, _, hmr⟩
          have HMR := Lib.hid hmr
          have G8 := Lib.hid (gb_same HG.out g8)
          have hk5 : j % (K + 1) < K + 1 := Nat.mod_lt _ (by omega)
          rw [hK] at hm1 ⊢
          have hk6 : 0 ≤ (j : Int) % ((K : Int) + 1) ∧ (j : Int) % ((K : Int) + 1) ≤ mc := by
            have e : (j : Int) % ((K : Int) + 1) = ((j % (K + 1) : Nat) : Int) := by push_cast; rfl
            rw [e]; omega
          have hk0 : ((K : Int) + 1 == 0) = false := by simp; omega
          unfold maxLen at hm2
          have HRM : Hid (Calls Try.prog 33 #[.slice (some ⟨mb, mo, none⟩) (j % (K + 1)) mc] w8 fun e w' => e = .returned (.tuple #[.agg #[.int .i64 0, .int .i64 0, .int .i64 0, .int .i64 0, .int .i64 0, .int .i64 0, .int .i64 0, .int .i64 0, .slice none 0 0], .int .i64 4]) ∧ w8.grownBy w' none) := Lib.hid (by
            have h1 := readMsg_any _ _ w8 (HMR.out (j % (K + 1)) (by omega)) (by rw [List.length_take]; omega)
            rw [HCUT.out _ (by omega)] at h1
            exact h1)
          clear hmr g8 HMR HM HCUT
          go_wp2_with fail
          refine HRM.out.mono ?_
          rintro e w9 ⟨rfl, g9⟩
          have G9 := Lib.hid (gb_same G8.out g9)
          clear g9 HRM
          go_wp2_with ((with_reducible refine is_store 57 14 99 ?_); go_must (refine st_row 57 14 99 w9.heap.size _ #[.int .i64 0, .int .i64 0, .int .i64 0, .int .i64 0, .int .i64 0, .int .i64 0, .int .i64 0, .int .i64 0, .slice none 0 0] _ rfl rfl (heap_at_alloc _ _) sz_msg rfl rfl ?_; intro wb hbb hgb; have G10 : Hid (w.grownBy wb none) := Lib.hid (gb_same G9.out (gb_new (gb_alloc _ _ _) hgb (Nat.le_refl _))); clear hbb hgb))
          refine ⟨⟨i + 1, by go_num, by omega, G10.out⟩, by simp [intOf]; omega⟩
        · go_wp2
          go_ret
          exact ⟨rfl, HG.out⟩
      · go_wp2
        go_ret
        exact ⟨rfl, HG.out⟩
end Go.Proofs.Ytgfopepopcacmaa
