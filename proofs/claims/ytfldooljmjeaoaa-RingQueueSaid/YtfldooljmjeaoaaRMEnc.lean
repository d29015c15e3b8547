/-
  Encode of a queue of messages: the walk.
-/
import Derived.Test.YtfldooljmjeaoaaRGm
namespace Go.Proofs.Ytfldooljmjeaoaa
open Go.RowKit Go.Shelf

theorem encG_len (m : Mg) (h : m.z.length ≤ 1536) : (encG m).length ≤ 1626 := by
  unfold encG encM encS
  have h1 := encL_len [m.s, m.d, m.k, m.q]
  have h2 := encL_len [m.a, m.b, m.c, m.e]
  have h3 := (enc_len (m.z.length : Int)).2
  simp only [List.length_append, List.length_cons, List.length_nil] at *
  omega
theorem flat_len : ∀ (l : List Mg), (∀ m ∈ l, OkMg m) → (l.flatMap encG).length ≤ 1626 * l.length
  | [], _ => by simp
  | m :: l, h => by
    have h1 := encG_len m (h m (by simp)).2
    have h2 := flat_len l (fun x hx => h x (by simp [hx]))
    rw [List.flatMap_cons, List.length_append, List.length_cons]
    omega
theorem GRow.nine {w : World} {B : Nat} {a : Option Addr} {n c : Nat} {ps : List GP} (h : GRow w B (.slice a n c) ps) {i : Nat} {p : GP} (hi : ps[i]? = some p) :
    ∃ b, a = some ⟨b, 0, none⟩ ∧ B ≤ b ∧ w.cell? ⟨b, i * 9, none⟩ = some (.int .i64 p.1.s) ∧ w.cell? ⟨b, i * 9 + 1, none⟩ = some (.int .i64 p.1.d) ∧ w.cell? ⟨b, i * 9 + 2, none⟩ = some (.int .i64 p.1.k) ∧ w.cell? ⟨b, i * 9 + 3, none⟩ = some (.int .i64 p.1.q) ∧ w.cell? ⟨b, i * 9 + 4, none⟩ = some (.int .i64 p.1.a) ∧ w.cell? ⟨b, i * 9 + 5, none⟩ = some (.int .i64 p.1.b) ∧ w.cell? ⟨b, i * 9 + 6, none⟩ = some (.int .i64 p.1.c) ∧ w.cell? ⟨b, i * 9 + 7, none⟩ = some (.int .i64 p.1.e) ∧ w.cell? ⟨b, i * 9 + 8, none⟩ = some p.2 := by
  obtain ⟨b, h1, h2, h3⟩ := h.at hi
  exact ⟨b, h1, h2, h3 0 _ rfl, h3 1 _ rfl, h3 2 _ rfl, h3 3 _ rfl, h3 4 _ rfl, h3 5 _ rfl, h3 6 _ rfl, h3 7 _ rfl, h3 8 _ rfl⟩
set_option maxRecDepth 100000 in
set_option maxHeartbeats 4000000 in
theorem encodeM_any {w : World} {B g n : Nat} {v : Value} {ps : List GP} (h : IsM w B g n v ps) (hok : ∀ p ∈ ps, OkMg p.1) : Calls Try.prog 21 #[.pointer (some ⟨g, 0, none⟩)] w (EncP (encMs n (ps.map (·.1))) w) := by
  have hle := h.le
  have hcn := h.cnt
  obtain ⟨a, c, rfl, _, _⟩ := h.row.slice
  have hg0 := h.grown (gb_drew w none)
  have HIA := Lib.hid (int_any (.slice none 0 0) (n : Int) w.drew w.heap.size [] (by omega) (by omega) (Own.nil _ _) (Nat.le_refl _) (by simp))
  have HS0 : Hid (w.drew.cell? ⟨g, 0, none⟩ = some (.int .i64 (n : Int)) ∧ w.drew.cell? ⟨g, 1, none⟩ = some (.slice a ps.length c)) := Lib.hid ⟨hg0.c0, hg0.c1⟩
  have H := Lib.hid h
  have HOK := Lib.hid hok
  clear h hg0 hok
  go_enter Try.func21, Try.ntmps21
  go_wp2_with fail
  refine region_KL (fuel := 12) (listed := #[false, false, false, false, false, false, false, false, false, false, false, false]) (fun X => X.cell? ⟨g, 0, none⟩ = some (.int .i64 (n : Int)) ∧ X.cell? ⟨g, 1, none⟩ = some (.slice a ps.length c)) 11 (by kernel_rfl) rfl (by kernel_rfl) ?_
  refine wpAnyK_takeL (i := 0) (d := 8) (v := ?_) (T' := ?_) (listed' := #[true, false, false, false, false, false, false, false, false, false, false, false]) rfl rfl (by kernel_rfl) (fun _ _ _ h => h) rfl (Or.inl ⟨by rfl, ?_⟩) ?_ HS0.out ?_
  rotate_left 2
  · intro w hS; clear hS; go_simp; rfl
  · simp only [List.setIfInBounds_toArray, List.set_cons_succ, List.set_cons_zero]; rfl
  refine wpAnyK_takeL (i := 1) (d := 9) (v := ?_) (T' := ?_) (listed' := #[true, true, false, false, false, false, false, false, false, false, false, false]) rfl rfl (by kernel_rfl) (fun _ _ _ h => h) rfl (Or.inl ⟨by rfl, ?_⟩) ?_ HS0.out ?_
  rotate_left 2
  · intro w hS; clear hS; go_simp; rfl
  · simp only [List.setIfInBounds_toArray, List.set_cons_succ, List.set_cons_zero]; rfl
  refine wpAnyK_takeL (i := 2) (d := 10) (v := ?_) (T' := ?_) (listed' := #[true, true, true, false, false, false, false, false, false, false, false, false]) rfl rfl (by kernel_rfl) (fun _ _ _ h => h) rfl (Or.inl ⟨by rfl, ?_⟩) ?_ HS0.out ?_
  rotate_left 2
  · intro w hS; clear hS; go_simp; rfl
  · simp only [List.setIfInBounds_toArray, List.set_cons_succ, List.set_cons_zero]; rfl
  refine wpAnyK_takeL (i := 3) (d := 11) (v := ?_) (T' := ?_) (listed' := #[true, true, true, true, false, false, false, false, false, false, false, false]) rfl rfl (by kernel_rfl) (fun _ _ _ h => h) rfl (Or.inl ⟨by rfl, ?_⟩) ?_ HS0.out ?_
  rotate_left 2
  · intro w hS; have t0 := hS.1; clear hS; go_simp; rfl
  · simp only [List.setIfInBounds_toArray, List.set_cons_succ, List.set_cons_zero]; rfl
  refine wpAnyK_takeL (i := 5) (d := 13) (v := ?_) (T' := ?_) (listed' := #[true, true, true, true, false, true, false, false, false, false, false, false]) rfl rfl (by kernel_rfl) (fun _ _ _ h => h) rfl (Or.inl ⟨by rfl, ?_⟩) ?_ HS0.out ?_
  rotate_left 2
  · intro w hS; clear hS; go_simp; rfl
  · simp only [List.setIfInBounds_toArray, List.set_cons_succ, List.set_cons_zero]; rfl
  refine wpAnyK_takeL (i := 6) (d := 14) (v := ?_) (T' := ?_) (listed' := #[true, true, true, true, false, true, true, false, false, false, false, false]) rfl rfl (by kernel_rfl) (fun _ _ _ h => h) rfl (Or.inl ⟨by rfl, ?_⟩) ?_ HS0.out ?_
  rotate_left 2
  · intro w hS; clear hS; go_simp; rfl
  · simp only [List.setIfInBounds_toArray, List.set_cons_succ, List.set_cons_zero]; rfl
  refine wpAnyK_takeL (i := 7) (d := 15) (v := ?_) (T' := ?_) (listed' := #[true, true, true, true, false, true, true, true, false, false, false, false]) rfl rfl (by kernel_rfl) (fun _ _ _ h => h) rfl (Or.inl ⟨by rfl, ?_⟩) ?_ HS0.out ?_
  rotate_left 2
  · intro w hS; clear hS; go_simp; rfl
  · simp only [List.setIfInBounds_toArray, List.set_cons_succ, List.set_cons_zero]; rfl
  refine wpAnyK_takeL (i := 8) (d := 16) (v := ?_) (T' := ?_) (listed' := #[true, true, true, true, false, true, true, true, true, false, false, false]) rfl rfl (by kernel_rfl) (fun _ _ _ h => h) rfl (Or.inl ⟨by rfl, ?_⟩) ?_ HS0.out ?_
  rotate_left 2
  · intro w hS; have t0 := hS.2; clear hS; go_simp; rfl
  · simp only [List.setIfInBounds_toArray, List.set_cons_succ, List.set_cons_zero]; rfl
  refine wpAnyK_takeL (i := 9) (d := 17) (v := ?_) (T' := ?_) (listed' := #[true, true, true, true, false, true, true, true, true, true, false, false]) rfl rfl (by kernel_rfl) (fun _ _ _ h => h) rfl (Or.inl ⟨by rfl, ?_⟩) ?_ HS0.out ?_
  rotate_left 2
  · intro w hS; clear hS; go_simp; rfl
  · simp only [List.setIfInBounds_toArray, List.set_cons_succ, List.set_cons_zero]; rfl
  refine wpAnyK_oneL (i := 4) (listed' := #[true, true, true, true, true, true, true, true, true, true, false, false]) (by kernel_rfl) rfl (by rfl) rfl ?_
  intro K hK
  go_simp
  refine HIA.out.mono ?_
  rintro e w1 ⟨v1, rfl, ho1, hg1, _⟩
  rw [List.nil_append] at ho1
  have HO1 := Lib.hid ho1
  have HG1 : Hid (w.grownBy w1 none) := Lib.hid (gb_same (gb_drew w none) hg1)
  have hq1 := H.out.grown HG1.out
  have HS1 : Hid (w1.cell? ⟨g, 0, none⟩ = some (.int .i64 (n : Int)) ∧ w1.cell? ⟨g, 1, none⟩ = some (.slice a ps.length c)) := Lib.hid ⟨hq1.c0, hq1.c1⟩
  have HIB := Lib.hid (int_any v1 (ps.length : Int) w1 w.heap.size (enc (n : Int)) (by omega) (by omega) ho1 HG1.out.size (by have := (enc_len (n : Int)).2; omega))
  clear ho1 hg1 hq1
  refine hK _ _ (fun _ => HS1.out) ?_
  clear hK K
  refine wpAnyK_oneL (i := 10) (listed' := #[true, true, true, true, true, true, true, true, true, true, true, false]) (by kernel_rfl) rfl (by rfl) rfl ?_
  intro K hK
  go_simp
  refine HIB.out.mono ?_
  rintro e w2 ⟨v2, rfl, ho2, hg2, _⟩
  have HO2 := Lib.hid ho2
  have HG2 := Lib.hid (gb_trans HG1.out hg2 (fun j hj => .inr (HO1.out.lt j hj).1))
  have hq2 := H.out.grown HG2.out
  have HS2 : Hid (w2.cell? ⟨g, 0, none⟩ = some (.int .i64 (n : Int)) ∧ w2.cell? ⟨g, 1, none⟩ = some (.slice a ps.length c)) := Lib.hid ⟨hq2.c0, hq2.c1⟩
  clear ho2 hg2
  refine hK _ _ (fun _ => HS2.out) ?_
  clear hK K
  refine wpAnyK_oneL (i := 11) (listed' := #[true, true, true, true, true, true, true, true, true, true, true, true]) (by kernel_rfl) rfl (by rfl) rfl ?_
  intro K hK
  go_simp
  refine hK _ _ (fun h => Bool.noConfusion (show true = false from h)) ?_
  clear hK K
  refine wpAnyK_done (by kernel_rfl) ?_ _
  have t1 := hq2.c1
  clear hq2
  go_wp2_with fail
  go_loopw [3, 24] (fun v i wr => ∃ k : Nat, k ≤ ps.length ∧ i = .int .i64 k ∧ Hid (Own wr w.heap.size v (enc (n : Int) ++ enc (ps.length : Int) ++ ((ps.take k).map (·.1)).flatMap encG)) ∧ Hid (w.grownBy wr none)) (fun _ i _ => ps.length - (intOf i).toNat)
  case atStart => exact ⟨0, Nat.zero_le _, rfl, Lib.hid (by simpa using HO2.out), HG2⟩
  case round =>
    obtain ⟨k, hk, rfl, HO, HG⟩ := hrel
    have HM := Lib.hid (H.out.grown HG.out)
    clear t1
    by_cases hlt : k < ps.length
    · obtain ⟨p, hp⟩ : ∃ p, ps[k]? = some p := ⟨ps[k], by simp [hlt]⟩
      have hpm := List.mem_of_getElem? hp
      obtain ⟨gb, rfl, _, q0, q1, q2, q3, q4, q5, q6, q7, q8⟩ := HM.out.row.nine hp
      have HD := Lib.hid (HM.out.data p hpm)
      have HOP := Lib.hid (HOK.out p hpm)
      have HPM := Lib.hid hpm
      have HT : Hid (((ps.take (k + 1)).map (·.1)).flatMap encG = ((ps.take k).map (·.1)).flatMap encG ++ encG p.1) := Lib.hid (by rw [List.take_add_one, hp]; simp)
      have HLN : Hid ((enc (n : Int) ++ enc (ps.length : Int) ++ ((ps.take k).map (·.1)).flatMap encG).length ≤ 400000) := Lib.hid (by
        have h1 := (enc_len (n : Int)).2
        have h2 := (enc_len (ps.length : Int)).2
        have h3 := flat_len ((ps.take k).map (·.1)) (fun m hm => by
          obtain ⟨x, hx, rfl⟩ := List.mem_map.1 hm
          exact HOK.out x (List.mem_of_mem_take hx))
        rw [List.length_map, List.length_take] at h3
        simp only [List.length_append]
        omega)
      obtain ⟨ad, cd, hpd⟩ := HD.out.len
      obtain ⟨⟨ms, md, mk, mq, ma, mb, mc, me, mz⟩, pv⟩ := p
      simp only at hpd q0 q1 q2 q3 q4 q5 q6 q7 q8 HD HOP HT
      subst hpd
      clear hp hpm
      generalize hLL : enc (n : Int) ++ enc (ps.length : Int) ++ ((ps.take k).map (·.1)).flatMap encG = L at HO HLN
      have HLL := Lib.hid hLL
      clear hLL
      go_wp2_with fail
      have hgx := gb_alloc wr (.cells #[.int .i64 ms, .int .i64 md, .int .i64 mk, .int .i64 mq, .int .i64 ma, .int .i64 mb, .int .i64 mc, .int .i64 me, .slice ad mz.length cd] 39) none
      refine (wmsgW_any u3 (.slice ad mz.length cd) _ w.heap.size L mz ms md mk mq ma mb mc me (HO.out.grown hgx) (HD.out.grown hgx).w (Nat.le_trans HG.out.size hgx.size) HOP.out.1 (fun hz j hj e => by have h1 := (HO.out.lt j e).1; have h2 := (H.out.data _ (HPM.out)).blk hz j hj; omega) (by have := HLN.out; omega) (by have := HOP.out.2; simp only at this; omega)).mono ?_
      rintro e w5 ⟨v5, rfl, ho5, hg5, hf5⟩
      have HO5 := Lib.hid ho5
      have HG5 := Lib.hid (gb_trans (gb_same HG.out hgx) hg5 (fun j hj => .inr (HO.out.lt j hj).1))
      clear ho5 hg5 hf5 hgx
      go_wp2
      go_roundw
      case rel => exact ⟨k + 1, by omega, by go_num, Lib.hid (by rw [HT.out, ← List.append_assoc, HLL.out]; exact HO5.out), HG5⟩
      case measure => simp [intOf]; omega
    · obtain rfl : k = ps.length := by omega
      clear hlt
      go_wp2
      go_ret
      exact ⟨_, rfl, by unfold encMs; have h := HO.out; rw [List.take_length] at h; rw [List.length_map]; exact h, HG.out⟩
end Go.Proofs.Ytfldooljmjeaoaa
