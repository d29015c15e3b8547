/-
  law.To: the walk.
-/
import Derived.Test.YtfdkmncjcehdkaaURRcv
namespace Go.Proofs.Ytfdkmncjcehdkaa
open Go.RowKit

set_option maxRecDepth 100000 in
set_option maxHeartbeats 4000000 in
theorem to_any (lv : Value) (ps : List RP) (w : World) (hl : RdRs w lv ps) (hn : ps.length ≤ 100000) (hd : ∀ p ∈ ps, p.1.2.2.length ≤ 140737488355328) :
    Calls Try.prog 24 #[lv] w (RecsP w (ps.map (·.1))) := by
  obtain ⟨al, cl, rfl⟩ := hl.1.len
  have HL := Lib.hid hl
  have HD := Lib.hid hd
  clear hl hd
  go_enter Try.func24, Try.ntmps24
  go_wp2_with fail
  go_loopw [3, 4] (fun v i wr => ∃ (k : Nat) (qs : List RP), k ≤ ps.length ∧ i = .int .i64 k ∧ Hid (qs.length = k ∧ qs.map (·.1) = (ps.take k).map (·.1)) ∧ Hid (RRow 65 wr w.heap.size v qs) ∧ Hid (∀ p ∈ qs, Own wr w.heap.size p.2 p.1.2.2 ∧ ∀ j, v.ownBlock = some j → p.2.ownBlock ≠ some j) ∧ Hid (w.grownBy wr none)) (fun _ i _ => ps.length - (intOf i).toNat)
  case atStart => exact ⟨0, [], Nat.zero_le _, rfl, Lib.hid ⟨rfl, rfl⟩, Lib.hid (RRow.nil _ _ _), Lib.hid (by simp), Lib.hid (gb_refl _ _)⟩
  case round =>
    obtain ⟨k, qs, hk, rfl, HQ, HR, HO, HG⟩ := hrel
    by_cases hlt : k < ps.length
    · obtain ⟨p, hp⟩ : ∃ p, ps[k]? = some p := ⟨ps[k], by simp [hlt]⟩
      have hpm := List.mem_of_getElem? hp
      obtain ⟨gb, off, rfl, q0, q1, q2⟩ := HL.out.1.at hp
      have hrd := (HL.out.2 p hpm).grown HG.out
      obtain ⟨ad, cd, hpd⟩ := hrd.len
      rw [hpd] at q2 hrd
      have HRD := Lib.hid hrd
      have HPL := Lib.hid (HD.out p hpm)
      have HSN : Hid ((ps.take (k + 1)).map (·.1) = (ps.take k).map (·.1) ++ [p.1]) := Lib.hid (by rw [List.take_add_one, hp, List.map_append]; rfl)
      obtain ⟨av, cv, hv⟩ := HR.out.slice
      rw [HQ.out.1] at hv
      subst hv
      have HQL : Hid (qs.length + 1 ≤ 1000000) := Lib.hid (by rw [HQ.out.1]; omega)
      have HSK : Hid (∀ X row, wr.grownBy X row → (∀ r, row = some r → w.heap.size ≤ r) → X.cell? ⟨gb, off + k * 3, none⟩ = some (.int .i64 p.1.1) ∧ X.cell? ⟨gb, off + k * 3 + 1, none⟩ = some (.int .i64 p.1.2.1) ∧ X.cell? ⟨gb, off + k * 3 + 2, none⟩ = some (.slice ad p.1.2.2.length cd)) := Lib.hid (fun X row hX hr => by
        have hb : gb < w.heap.size := World.block_lt_of_cell? _ _ q0
        have hne : some gb ≠ row := fun e => by have := hr gb e.symm; omega
        exact ⟨hX.cell (HG.out.cell q0 (by simp)) hne, hX.cell (HG.out.cell q1 (by simp)) hne, hX.cell (HG.out.cell q2 (by simp)) hne⟩)
      have HS0 := HSK.out wr.drew none (gb_drew _ _) (by simp)
      clear q0 q1 q2 hp hpm hrd hpd
      go_wp2_with fail
      refine region_KL (fuel := 22) (listed := #[false, false, false, false, false, false, false, false, false, false, false, false, false, false, false, false, false, false, false, false, false, false]) (fun X => X.cell? ⟨gb, off + k * 3, none⟩ = some (.int .i64 p.1.1) ∧ X.cell? ⟨gb, off + k * 3 + 1, none⟩ = some (.int .i64 p.1.2.1) ∧ X.cell? ⟨gb, off + k * 3 + 2, none⟩ = some (.slice ad p.1.2.2.length cd)) 21 (by kernel_rfl) rfl (by kernel_rfl) ?_
      refine wpAnyK_takeL (i := 0) (d := 11) (v := ?_) (T' := ?_) (listed' := #[true, false, false, false, false, false, false, false, false, false, false, false, false, false, false, false, false, false, false, false, false, false]) rfl rfl (by kernel_rfl) (fun _ _ _ h => h) rfl (Or.inl ⟨by rfl, ?_⟩) ?_ HS0 ?_
      rotate_left 2
      · intro w hS; clear hS; go_simp; rfl
      · simp only [List.setIfInBounds_toArray, List.set_cons_succ, List.set_cons_zero]; rfl
      refine wpAnyK_takeL (i := 1) (d := 12) (v := ?_) (T' := ?_) (listed' := #[true, true, false, false, false, false, false, false, false, false, false, false, false, false, false, false, false, false, false, false, false, false]) rfl rfl (by kernel_rfl) (fun _ _ _ h => h) rfl (Or.inl ⟨by rfl, ?_⟩) ?_ HS0 ?_
      rotate_left 2
      · intro w hS; clear hS; go_simp; rfl
      · simp only [List.setIfInBounds_toArray, List.set_cons_succ, List.set_cons_zero]; rfl
      refine wpAnyK_takeL (i := 2) (d := 13) (v := ?_) (T' := ?_) (listed' := #[true, true, true, false, false, false, false, false, false, false, false, false, false, false, false, false, false, false, false, false, false, false]) rfl rfl (by kernel_rfl) (fun _ _ _ h => h) rfl (Or.inl ⟨by rfl, ?_⟩) ?_ HS0 ?_
      rotate_left 2
      · intro w hS; clear hS; go_simp; rfl
      · simp only [List.setIfInBounds_toArray, List.set_cons_succ, List.set_cons_zero]; rfl
      refine wpAnyK_takeL (i := 3) (d := 14) (v := ?_) (T' := ?_) (listed' := #[true, true, true, true, false, false, false, false, false, false, false, false, false, false, false, false, false, false, false, false, false, false]) rfl rfl (by kernel_rfl) (fun _ _ _ h => h) rfl (Or.inl ⟨by rfl, ?_⟩) ?_ HS0 ?_
      rotate_left 2
      · intro w hS; clear hS; go_simp; rfl
      · simp only [List.setIfInBounds_toArray, List.set_cons_succ, List.set_cons_zero]; rfl
      refine wpAnyK_takeL (i := 4) (d := 15) (v := ?_) (T' := ?_) (listed' := #[true, true, true, true, true, false, false, false, false, false, false, false, false, false, false, false, false, false, false, false, false, false]) rfl rfl (by kernel_rfl) (fun _ _ _ h => h) rfl (Or.inl ⟨by rfl, ?_⟩) ?_ HS0 ?_
      rotate_left 2
      · intro w hS; clear hS; go_simp; rfl
      · simp only [List.setIfInBounds_toArray, List.set_cons_succ, List.set_cons_zero]; rfl
      refine wpAnyK_takeL (i := 5) (d := 16) (v := ?_) (T' := ?_) (listed' := #[true, true, true, true, true, true, false, false, false, false, false, false, false, false, false, false, false, false, false, false, false, false]) rfl rfl (by kernel_rfl) (fun _ _ _ h => h) rfl (Or.inl ⟨by rfl, ?_⟩) ?_ HS0 ?_
      rotate_left 2
      · intro w hS; have t0 := hS.1; clear hS; go_simp; rfl
      · simp only [List.setIfInBounds_toArray, List.set_cons_succ, List.set_cons_zero]; rfl
      refine wpAnyK_takeL (i := 6) (d := 17) (v := ?_) (T' := ?_) (listed' := #[true, true, true, true, true, true, true, false, false, false, false, false, false, false, false, false, false, false, false, false, false, false]) rfl rfl (by kernel_rfl) (fun _ _ _ h => h) rfl (Or.inl ⟨by rfl, ?_⟩) ?_ HS0 ?_
      rotate_left 2
      · intro w hS; clear hS; go_simp; rfl
      · simp only [List.setIfInBounds_toArray, List.set_cons_succ, List.set_cons_zero]; rfl
      refine wpAnyK_takeL (i := 7) (d := 18) (v := ?_) (T' := ?_) (listed' := #[true, true, true, true, true, true, true, true, false, false, false, false, false, false, false, false, false, false, false, false, false, false]) rfl rfl (by kernel_rfl) (fun _ _ _ h => h) rfl (Or.inl ⟨by rfl, ?_⟩) ?_ HS0 ?_
      rotate_left 2
      · intro w hS; clear hS; go_simp; rfl
      · simp only [List.setIfInBounds_toArray, List.set_cons_succ, List.set_cons_zero]; rfl
      refine wpAnyK_takeL (i := 8) (d := 19) (v := ?_) (T' := ?_) (listed' := #[true, true, true, true, true, true, true, true, true, false, false, false, false, false, false, false, false, false, false, false, false, false]) rfl rfl (by kernel_rfl) (fun _ _ _ h => h) rfl (Or.inl ⟨by rfl, ?_⟩) ?_ HS0 ?_
      rotate_left 2
      · intro w hS; clear hS; go_simp; rfl
      · simp only [List.setIfInBounds_toArray, List.set_cons_succ, List.set_cons_zero]; rfl
      refine wpAnyK_takeL (i := 9) (d := 20) (v := ?_) (T' := ?_) (listed' := #[true, true, true, true, true, true, true, true, true, true, false, false, false, false, false, false, false, false, false, false, false, false]) rfl rfl (by kernel_rfl) (fun _ _ _ h => h) rfl (Or.inl ⟨by rfl, ?_⟩) ?_ HS0 ?_
      rotate_left 2
      · intro w hS; clear hS; go_simp; rfl
      · simp only [List.setIfInBounds_toArray, List.set_cons_succ, List.set_cons_zero]; rfl
      refine wpAnyK_takeL (i := 10) (d := 21) (v := ?_) (T' := ?_) (listed' := #[true, true, true, true, true, true, true, true, true, true, true, false, false, false, false, false, false, false, false, false, false, false]) rfl rfl (by kernel_rfl) (fun _ _ _ h => h) rfl (Or.inl ⟨by rfl, ?_⟩) ?_ HS0 ?_
      rotate_left 2
      · intro w hS; have t1 := hS.2.1; clear hS; go_simp; rfl
      · simp only [List.setIfInBounds_toArray, List.set_cons_succ, List.set_cons_zero]; rfl
      refine wpAnyK_takeL (i := 12) (d := 23) (v := ?_) (T' := ?_) (listed' := #[true, true, true, true, true, true, true, true, true, true, true, false, true, false, false, false, false, false, false, false, false, false]) rfl rfl (by kernel_rfl) (fun _ _ _ h => h) rfl (Or.inl ⟨by rfl, ?_⟩) ?_ HS0 ?_
      rotate_left 2
      · intro w hS; clear hS; go_simp; rfl
      · simp only [List.setIfInBounds_toArray, List.set_cons_succ, List.set_cons_zero]; rfl
      refine wpAnyK_takeL (i := 13) (d := 24) (v := ?_) (T' := ?_) (listed' := #[true, true, true, true, true, true, true, true, true, true, true, false, true, true, false, false, false, false, false, false, false, false]) rfl rfl (by kernel_rfl) (fun _ _ _ h => h) rfl (Or.inl ⟨by rfl, ?_⟩) ?_ HS0 ?_
      rotate_left 2
      · intro w hS; clear hS; go_simp; rfl
      · simp only [List.setIfInBounds_toArray, List.set_cons_succ, List.set_cons_zero]; rfl
      refine wpAnyK_takeL (i := 14) (d := 25) (v := ?_) (T' := ?_) (listed' := #[true, true, true, true, true, true, true, true, true, true, true, false, true, true, true, false, false, false, false, false, false, false]) rfl rfl (by kernel_rfl) (fun _ _ _ h => h) rfl (Or.inl ⟨by rfl, ?_⟩) ?_ HS0 ?_
      rotate_left 2
      · intro w hS; clear hS; go_simp; rfl
      · simp only [List.setIfInBounds_toArray, List.set_cons_succ, List.set_cons_zero]; rfl
      refine wpAnyK_takeL (i := 15) (d := 26) (v := ?_) (T' := ?_) (listed' := #[true, true, true, true, true, true, true, true, true, true, true, false, true, true, true, true, false, false, false, false, false, false]) rfl rfl (by kernel_rfl) (fun _ _ _ h => h) rfl (Or.inl ⟨by rfl, ?_⟩) ?_ HS0 ?_
      rotate_left 2
      · intro w hS; clear hS; go_simp; rfl
      · simp only [List.setIfInBounds_toArray, List.set_cons_succ, List.set_cons_zero]; rfl
      refine wpAnyK_takeL (i := 16) (d := 27) (v := ?_) (T' := ?_) (listed' := #[true, true, true, true, true, true, true, true, true, true, true, false, true, true, true, true, true, false, false, false, false, false]) rfl rfl (by kernel_rfl) (fun _ _ _ h => h) rfl (Or.inl ⟨by rfl, ?_⟩) ?_ HS0 ?_
      rotate_left 2
      · intro w hS; have t2 := hS.2.2; clear hS; go_simp; rfl
      · simp only [List.setIfInBounds_toArray, List.set_cons_succ, List.set_cons_zero]; rfl
      refine wpAnyK_oneL (i := 11) (listed' := #[true, true, true, true, true, true, true, true, true, true, true, true, true, true, true, true, true, false, false, false, false, false]) (by kernel_rfl) rfl (by rfl) rfl ?_
      intro K hK
      go_simp
      have HLI := Lib.hid ((Own.lit wr #[] [] 0 wr.heap.size rfl rfl (Nat.le_refl _) (Nat.zero_le _)).grown (gb_drew _ none))
      obtain ⟨w4, hw4⟩ : ∃ w4, (wr.alloc (Obj.cells #[] 5)).drew = w4 := ⟨_, rfl⟩
      have HG4 : Hid (wr.grownBy w4 none) := Lib.hid (by rw [← hw4]; exact gb_same (gb_alloc _ _ _) (gb_drew _ _))
      rw [hw4] at HLI ⊢
      clear hw4
      refine hK _ _ (fun _ => HSK.out _ none HG4.out (by simp)) ?_
      clear hK K
      refine wpAnyK_oneL (i := 17) (listed' := #[true, true, true, true, true, true, true, true, true, true, true, true, true, true, true, true, true, true, false, false, false, false]) (by kernel_rfl) rfl (by rfl) rfl ?_
      intro K hK
      refine app_bytes_op _ _ rfl wr.heap.size _ (.slice ad p.1.2.2.length cd) [] p.1.2.2 rfl rfl HLI.out (HRD.out.grown HG4.out) HG4.out.size (by simp; exact HPL.out) ?_
      intro v5 w5 h5 hg5 hf5
      rw [List.nil_append] at h5
      obtain ⟨a5, c5, hv5⟩ := h5.rd.len
      subst hv5
      have HO5 := Lib.hid h5
      have HG5 : Hid (wr.grownBy w5 none) := Lib.hid (gb_trans HG4.out hg5 (fun j hj => .inr (HLI.out.lt j hj).1))
      clear h5 hg5 hf5
      refine hK _ _ (fun _ => HSK.out _ none HG5.out (by simp)) ?_
      clear hK K
      refine wpAnyK_oneL (i := 18) (listed' := #[true, true, true, true, true, true, true, true, true, true, true, true, true, true, true, true, true, true, true, false, false, false]) (by kernel_rfl) rfl (by rfl) rfl ?_
      intro K hK
      go_simp
      refine hK _ _ (fun _ => HSK.out _ none HG5.out (by simp)) ?_
      clear hK K
      refine wpAnyK_oneL (i := 19) (listed' := #[true, true, true, true, true, true, true, true, true, true, true, true, true, true, true, true, true, true, true, true, false, false]) (by kernel_rfl) rfl (by rfl) rfl ?_
      intro K hK
      go_simp
      obtain ⟨w6, hw6⟩ : ∃ w6, w5.alloc (Obj.cells #[.int .i64 p.1.1, .int .i64 p.1.2.1, .slice a5 p.1.2.2.length c5] 65) = w6 := ⟨_, rfl⟩
      have HB6 : Hid (w6.heap[w5.heap.size]? = some (.cells #[.int .i64 p.1.1, .int .i64 p.1.2.1, .slice a5 p.1.2.2.length c5] 65 (0, 0))) := Lib.hid (by rw [← hw6]; exact heap_at_alloc _ _)
      have HG6 : Hid (w5.grownBy w6 none) := Lib.hid (by rw [← hw6]; exact gb_alloc _ _ _)
      rw [hw6]
      clear hw6
      refine hK _ _ (fun _ => HSK.out _ none (gb_same HG5.out HG6.out) (by simp)) ?_
      clear hK K
      refine wpAnyK_oneL (i := 20) (listed' := #[true, true, true, true, true, true, true, true, true, true, true, true, true, true, true, true, true, true, true, true, true, false]) (by kernel_rfl) rfl (by rfl) rfl ?_
      intro K hK
      refine rec_app_op Try.underlying42 info_rec _ _ rfl w.heap.size (.slice av k cv) _ qs [(p.1, .slice a5 p.1.2.2.length c5)] rfl rfl ((HR.out.grown HG5.out).grown HG6.out) (RdRow.one HB6.out) (by simp [HO5.out.one]) HQL.out (Nat.le_trans HG.out.size (Nat.le_trans HG5.out.size HG6.out.size)) ?_
      intro v7 w7 h7 hg7 hf7
      have hlo : ∀ r, (Value.slice av k cv).ownBlock = some r → w.heap.size ≤ r ∧ r < wr.heap.size := fun r hr => World.ownsRow.lt HR.out r hr
      have HLO := Lib.hid hlo
      have HO7 := Lib.hid h7
      have HG7 := Lib.hid hg7
      have HF7 := Lib.hid hf7
      clear h7 hg7 hf7 hlo
      refine hK _ _ (fun _ => HSK.out _ _ (gb_trans (gb_none _ (gb_same HG5.out HG6.out)) HG7.out (fun j hj => .inl hj)) (fun r hr => (HLO.out r hr).1)) ?_
      clear hK K
      refine wpAnyK_oneL (i := 21) (listed' := #[true, true, true, true, true, true, true, true, true, true, true, true, true, true, true, true, true, true, true, true, true, true]) (by kernel_rfl) rfl (by rfl) rfl ?_
      intro K hK
      go_simp
      refine hK _ _ (fun h => Bool.noConfusion (show true = false from h)) ?_
      clear hK K
      refine wpAnyK_done (by kernel_rfl) ?_ _
      go_wp2
      have hnew : ∀ u l, Own w6 w.heap.size u l → (∀ j, (Value.slice av k cv).ownBlock = some j → u.ownBlock ≠ some j) → Own w7 w.heap.size u l ∧ ∀ j, v7.ownBlock = some j → u.ownBlock ≠ some j := fun u l hu hne => ⟨hu.kept HG7.out (fun j hj e => hne j e hj), fun j hj e => by
        rcases HF7.out j hj with h | h
        · exact hne j h e
        · have := (hu.lt j e).2; omega⟩
      refine ⟨⟨k + 1, qs ++ [(p.1, .slice a5 p.1.2.2.length c5)], by omega, by go_num, Lib.hid ⟨by rw [List.length_append, HQ.out.1]; rfl, by rw [List.map_append, HQ.out.2, HSN.out]; rfl⟩, Lib.hid HO7.out, Lib.hid ?_, Lib.hid ?_⟩, by simp [intOf]; omega⟩
      · intro q hq
        rcases List.mem_append.1 hq with h | h
        · exact hnew _ _ (((HO.out q h).1.grown HG5.out).grown HG6.out) (HO.out q h).2
        · simp at h
          subst h
          exact hnew _ _ ((HO5.out.mono HG.out.size).grown HG6.out) (fun j hj e => by have h1 := (HLO.out j hj).2; have h2 := (HO5.out.lt j e).1; omega)
      · exact gb_trans (gb_same HG.out (gb_same HG5.out HG6.out)) HG7.out (fun j hj => .inr (HLO.out j hj).1)
    · obtain rfl : k = ps.length := by omega
      obtain ⟨av, cv, hv⟩ := HR.out.slice
      have HHV := Lib.hid hv
      clear hv
      go_wp2
      go_ret
      refine ⟨_, qs, rfl, ⟨HR.out.rd, fun q hq => .inl (HO.out q hq).1.rd⟩, ?_, HG.out, fun j hj => (World.ownsRow.lt HR.out j hj).1, fun q hq j hj => ((HO.out q hq).1.lt j hj).1⟩
      rw [HQ.out.2, List.take_of_length_le (Nat.le_refl _)]
end Go.Proofs.Ytfdkmncjcehdkaa
