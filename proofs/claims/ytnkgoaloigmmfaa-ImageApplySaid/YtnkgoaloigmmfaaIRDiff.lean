/-
  The reference's Diff: the walk.
-/
import Derived.Test.YtnkgoaloigmmfaaIREq
import Derived.Test.YtnkgoaloigmmfaaIRef
import Derived.Deep.RegionWith
namespace Go.Proofs.Ytnkgoaloigmmfaa
open Go.RowKit

def RDInv (w : World) (a b : List UInt8) (k : Nat) (W : World) : Prop :=
  ∃ cv qs, W.heap[w.heap.size]? = some (.cells #[.int .i64 0, .slice none 0 0] 35 (0, 0)) ∧ W.heap[w.heap.size + 1]? = some (.cells #[.int .i64 (b.length : Int), cv] 35 (0, 0)) ∧
    CLp 65 W (w.heap.size + 2) cv qs ∧ qs.map (·.1) = diffTo a b (List.range k) ∧ w.grownBy W none ∧ w.heap.size + 2 ≤ W.heap.size
theorem RDInv.next {w W W4 : World} {a b : List UInt8} {k : Nat} (h : RDInv w a b k W) (hg : W.grownBy W4 none) (he : pg b (k : Int) = pg a (k : Int)) : RDInv w a b (k + 1) W4 := by
  obtain ⟨cv, qs, h1, h2, h3, h4, h5, h6⟩ := h
  refine ⟨cv, qs, blk_kept h1 hg, blk_kept h2 hg, h3.grown hg, ?_, gb_same h5 hg, Nat.le_trans h6 hg.size⟩
  rw [range_snoc, diffTo_snoc, h4, diffAt, if_pos (by simpa using he)]
  simp
theorem RDInv.add {w W w6 w7 : World} {a b : List UInt8} {k : Nat} {cv v7 dv : Value} {qs : List ChP}
    (h1 : W.heap[w.heap.size]? = some (.cells #[.int .i64 0, .slice none 0 0] 35 (0, 0))) (h2 : W.heap[w.heap.size + 1]? = some (.cells #[.int .i64 (b.length : Int), cv] 35 (0, 0)))
    (h3 : CLp 65 W (w.heap.size + 2) cv qs) (h4 : qs.map (·.1) = diffTo a b (List.range k)) (h5 : w.grownBy W none) (hz : w.heap.size + 2 ≤ W.heap.size) (he : pg b (k : Int) ≠ pg a (k : Int))
    (g6 : W.grownBy w6 none) (h7 : CLp 65 w7 (w.heap.size + 2) v7 (qs ++ [(((k : Int), pg b k), dv)])) (hg7 : w6.grownBy w7 cv.ownBlock) :
    RDInv w a b (k + 1) (w7.setCell ⟨w.heap.size + 1, 1, none⟩ v7) := by
  have hsz : W.heap.size ≤ w7.heap.size := Nat.le_trans g6.size hg7.size
  have hlo : ∀ k, cv.ownBlock = some k → w.heap.size + 2 ≤ k := fun k hk => (h3.1.lt k hk).1
  refine ⟨v7, qs ++ [(((k : Int), pg b k), dv)], ?_, ?_, ?_, ?_, ?_, by simp; omega⟩
  · rw [heap_setCell_other _ _ _ _ (by simp), hg7.block _ (by have := g6.size; omega) (fun e => by have := hlo _ e.symm; omega), g6.block _ (by omega) (by simp)]; exact h1
  · have h8 : w7.heap[w.heap.size + 1]? = some (.cells #[.int .i64 (b.length : Int), cv] 35 (0, 0)) := by
      rw [hg7.block _ (by have := g6.size; omega) (fun e => by have := hlo _ e.symm; omega), g6.block _ (by omega) (by simp)]; exact h2
    exact heap_setCell_same _ _ 1 _ _ v7 h8
  · exact h7.kept (gb_setCell _ _ _) (fun k hk => .inl (by cases hk; simp))
  · rw [List.map_append, h4, range_snoc, diffTo_snoc, diffAt, if_neg (by simpa using he)]; rfl
  · exact gb_trans (gb_trans (gb_same h5 g6) hg7 (fun k hk => .inr (by have := hlo k hk; omega))) (gb_setCell _ _ _) (fun k hk => .inr (by cases hk; simp))

def RPatP (w : World) (n : Int) (cs : List CT) (er : Int) (e : Ending) (w' : World) : Prop :=
  ∃ cv ps, e = .returned (.tuple #[.agg #[.int .i64 n, cv], .int .i64 er]) ∧ ps.map (·.1) = cs ∧ CLp 65 w' w.heap.size cv ps ∧ w.grownBy w' none

set_option maxRecDepth 100000 in
set_option maxHeartbeats 4000000 in
theorem rdiff_any (va vb : Value) (a b : List UInt8) (w : World) (ha : Rd w va a) (hb : Rd w vb b) (hl : b.length ≤ 24000) :
    Calls Try.prog 17 #[va, vb] w (RPatP w b.length (diffL a b) 0) := by
  obtain ⟨aa, ca, rfl⟩ := ha.len
  obtain ⟨ab, cb, rfl⟩ := hb.len
  have h1 : ¬ (24000 : Int) < b.length := by omega
  have HA := Lib.hid ha
  have HB := Lib.hid hb
  have HL := Lib.hid hl
  obtain ⟨N, hN⟩ := Int.eq_ofNat_of_zero_le (cntI_nonneg (b.length : Int))
  have hN2 : N ≤ b.length := by have := cntI_le (b.length : Int) (by omega); omega
  have HC := Lib.hid (fun W => rcount_any b.length W (by omega) (by omega))
  rw [hN] at HC
  have HN := Lib.hid hN
  obtain ⟨W3, hW3⟩ : ∃ W3, (w.alloc (Obj.cells #[.int .i64 0, .slice none 0 0] 35)).alloc (Obj.cells #[.int .i64 b.length, .slice none 0 0] 35) = W3 := ⟨_, rfl⟩
  have hg3 : w.grownBy W3 none := by rw [← hW3]; exact gb_same (gb_alloc _ _ _) (gb_alloc _ _ _)
  have hz3 : W3.heap.size = w.heap.size + 2 := by rw [← hW3]; simp
  have k0 : W3.heap[w.heap.size]? = some (.cells #[.int .i64 0, .slice none 0 0] 35 (0, 0)) := by rw [← hW3]; exact blk_kept (heap_at_alloc _ _) (gb_alloc _ _ _)
  have k1 : W3.heap[w.heap.size + 1]? = some (.cells #[.int .i64 b.length, .slice none 0 0] 35 (0, 0)) := by rw [← hW3]; have := heap_at_alloc (w.alloc (Obj.cells #[.int .i64 0, .slice none 0 0] 35)) (Obj.cells #[.int .i64 b.length, .slice none 0 0] 35); rw [World.size_alloc] at this; exact this
  have H0 : Hid (RDInv w a b 0 W3) := Lib.hid ⟨_, [], k0, k1, CLp.nil _ _ _, rfl, hg3, by omega⟩
  have HW3 := Lib.hid hW3
  clear hW3 hg3 hz3 k0 k1 ha hb hl hN
  go_enter Try.func17, Try.ntmps17
  go_wp2
  rw [HW3.out]
  go_loopw [7] (fun i wr => ∃ k : Nat, k ≤ N ∧ i = .int .i64 k ∧ Hid (RDInv w a b k wr)) (fun i _ => N - (intOf i).toNat)
  case atStart => exact ⟨0, Nat.zero_le _, rfl, H0⟩
  case round =>
    obtain ⟨k, hk, rfl, HI⟩ := hrel
    by_cases hlt : k < N
    · have hgw := HI.out
      obtain ⟨_, _, _, _, _, _, hgw, _⟩ := hgw
      have HGW := Lib.hid hgw
      have HPA := Lib.hid (fun X (hX : wr.grownBy X none) => rpage_any _ a k X (HA.out.grown (gb_same hgw hX)) (by have := HL.out; omega) (by have := HL.out; omega))
      have HPB := Lib.hid (fun X (hX : wr.grownBy X none) => rpage_any _ b k X (HB.out.grown (gb_same hgw hX)) (by have := HL.out; omega) (by have := HL.out; omega))
      clear hgw
      have hq := str_beq (pg a k) (pg b k)
      by_cases he : pg b (k : Int) = pg a (k : Int)
      · have hs : ((str (pg a k)).toList != (str (pg b k)).toList) = false := by rw [bne, hq, he]; simp
        rw [beq_iff_eq.2 he.symm] at hq
        have HE := Lib.hid he
        clear he
        go_wp2_with (go_at_call 14; refine (HC.out _).mono ?_; rintro e w' ⟨rfl, rfl⟩)
        go_region_with (first | (go_at_call 15; (with_reducible refine (HPA.out _ (gb_drew _ _)).mono ?_); go_must (rintro e w2 ⟨v1, rfl, ho1, hg1⟩; obtain ⟨a1, c1, rfl⟩ := ho1.rd.len; have e1 := run_toString w2 _ _ ho1.rd; have HO1 := Lib.hid ho1; have HG2 : Hid (wr.grownBy w2 none) := Lib.hid (gb_same (gb_drew _ _) hg1); clear ho1 hg1)) | (go_at_call 15; (with_reducible refine (HPB.out _ HG2.out).mono ?_); go_must (rintro e w3 ⟨v2, rfl, ho2, hg2⟩; obtain ⟨a2, c2, rfl⟩ := ho2.rd.len; have e2 := run_toString w3 _ _ ho2.rd; have e3 := run_toString w3 _ _ (HO1.out.grown hg2).rd; have HG3 : Hid (wr.grownBy w3 none) := Lib.hid (gb_same HG2.out hg2); clear ho2 hg2)))

        all_goals
          go_wp2
          exact ⟨⟨k + 1, by omega, by go_num, Lib.hid (HI.out.next HG3.out HE.out)⟩, by simp [intOf]; omega⟩
      · have hs : ((str (pg a k)).toList != (str (pg b k)).toList) = true := by rw [bne, hq, beq_eq_false_iff_ne.2 (fun e => he e.symm)]; rfl
        rw [beq_eq_false_iff_ne.2 (fun e => he e.symm)] at hq
        have HE := Lib.hid he
        clear he
        obtain ⟨cv, qs, h1, h2, h3, h4, h5, h6⟩ := HI.out
        obtain ⟨acv, ccv, rfl⟩ := h3.slice
        have H1 := Lib.hid h1
        have H2 := Lib.hid h2
        have H3 := Lib.hid h3
        have H4 := Lib.hid h4
        have H5 := Lib.hid h5
        have H6 := Lib.hid h6
        have hql : qs.length ≤ 1000000 := by have e := congrArg List.length h4; have e2 := diffTo_len a b (List.range k); rw [List.length_map] at e; rw [List.length_range] at e2; have := HL.out; omega
        have HQL := Lib.hid hql
        clear h1 h2 h3 h4 h5 h6 hql HI
        go_wp2_with (go_at_call 14; refine (HC.out _).mono ?_; rintro e w' ⟨rfl, rfl⟩)
        go_region_with (first | (go_at_call 15; (with_reducible refine (HPA.out _ (gb_drew _ _)).mono ?_); go_must (rintro e w2 ⟨v1, rfl, ho1, hg1⟩; obtain ⟨a1, c1, rfl⟩ := ho1.rd.len; have e1 := run_toString w2 _ _ ho1.rd; have HO1 := Lib.hid ho1; have HG2 : Hid (wr.grownBy w2 none) := Lib.hid (gb_same (gb_drew _ _) hg1); clear ho1 hg1)) | (go_at_call 15; (with_reducible refine (HPB.out _ HG2.out).mono ?_); go_must (rintro e w3 ⟨v2, rfl, ho2, hg2⟩; obtain ⟨a2, c2, rfl⟩ := ho2.rd.len; have e2 := run_toString w3 _ _ ho2.rd; have e3 := run_toString w3 _ _ (HO1.out.grown hg2).rd; have HG3 : Hid (wr.grownBy w3 none) := Lib.hid (gb_same HG2.out hg2); clear ho2 hg2)))

        all_goals
          have c1 : w3.cell? ⟨w.heap.size + 1, 1, none⟩ = some (.slice acv qs.length ccv) := cell_row (blk_kept H2.out HG3.out)
          have HPB2 := Lib.hid (fun X (hX : w3.grownBy X none) => HPB.out X (gb_same HG3.out hX))
          have hgk := HG3.out.size
          clear e1 e2 e3 HO1 HG2 HPA hq hs
          generalize hpk : pg b (k : Int) = pk at *
          have HPK := Lib.hid hpk
          clear hpk
          go_wp2
          refine region_K (fun w' => w'.cell? ⟨w.heap.size + 1, 1, none⟩ = some (.slice acv qs.length ccv)) 10 (by kernel_rfl) ?_
          have HS : ∀ X row, w3.grownBy X row → (∀ r, row = some r → w.heap.size + 2 ≤ r) → X.cell? ⟨w.heap.size + 1, 1, none⟩ = some (.slice acv qs.length ccv) := fun X row hX hr => hX.cell c1 (fun e => by have h9 : w.heap.size + 2 ≤ w.heap.size + 1 := hr _ e.symm; omega)
          have HSH := Lib.hid HS
          have HS0 := HS w3.drew none (gb_drew _ _) (by simp)
          clear HS c1
          refine wpAnyK_take (i := 0) (v := ?_) rfl (by kernel_rfl) (by kernel_rfl) (by kernel_rfl) (fun _ _ _ h => h) (by kernel_rfl) (by kernel_rfl) (by kernel_rfl) (Or.inl ⟨by rfl, ?_⟩) HS0 ?_
          rotate_left
          · intro w hS; clear hS; go_simp; rfl
          refine wpAnyK_take (i := 1) (v := ?_) rfl (by kernel_rfl) (by kernel_rfl) (by kernel_rfl) (fun _ _ _ h => h) (by kernel_rfl) (by kernel_rfl) (by kernel_rfl) (Or.inl ⟨by rfl, ?_⟩) HS0 ?_
          rotate_left
          · intro w hS; have s0 := hS; clear hS; go_simp; rfl
          refine wpAnyK_take (i := 2) (v := ?_) rfl (by kernel_rfl) (by kernel_rfl) (by kernel_rfl) (fun _ _ _ h => h) (by kernel_rfl) (by kernel_rfl) (by kernel_rfl) (Or.inl ⟨by rfl, ?_⟩) HS0 ?_
          rotate_left
          · intro w hS; clear hS; go_simp; rfl
          refine wpAnyK_take (i := 3) (v := ?_) rfl (by kernel_rfl) (by kernel_rfl) (by kernel_rfl) (fun _ _ _ h => h) (by kernel_rfl) (by kernel_rfl) (by kernel_rfl) (Or.inl ⟨by rfl, ?_⟩) HS0 ?_
          rotate_left
          · intro w hS; clear hS; go_simp; rfl
          refine wpAnyK_take (i := 4) (v := ?_) rfl (by kernel_rfl) (by kernel_rfl) (by kernel_rfl) (fun _ _ _ h => h) (by kernel_rfl) (by kernel_rfl) (by kernel_rfl) (Or.inl ⟨by rfl, ?_⟩) HS0 ?_
          rotate_left
          · intro w hS; clear hS; go_simp; rfl
          refine wpAnyK_one (i := 5) (by kernel_rfl) rfl (by rfl) ?_
          intro K hK
          go_simp
          refine (HPB2.out _ (gb_drew _ _)).mono ?_
          rintro e w5 ⟨v5, rfl, ho5, hg5⟩
          obtain ⟨a5, c5, rfl⟩ := ho5.rd.len
          have HG5 : Hid (w3.grownBy w5 none) := Lib.hid (gb_same (gb_drew _ _) hg5)
          have HO5 : Hid (Own w5 w3.heap.size (.slice a5 pk.length c5) pk) := Lib.hid ho5
          have HNE5 : Hid (∀ j, (Value.slice acv qs.length ccv).ownBlock = some j → (Value.slice a5 pk.length c5).ownBlock ≠ some j) := Lib.hid (fun j hj e => by
            have h1 := (H3.out.1.lt j hj).2
            have h2 := (HO5.out.lt j e).1
            omega)
          clear ho5 hg5
          refine hK _ _ (fun _ => HSH.out _ none HG5.out (by simp)) ?_
          clear hK K
          refine wpAnyK_one (i := 6) (by kernel_rfl) rfl (by rfl) ?_
          intro K hK
          go_simp
          refine hK _ _ (fun _ => HSH.out _ none HG5.out (by simp)) ?_
          clear hK K
          refine wpAnyK_one (i := 7) (by kernel_rfl) rfl (by rfl) ?_
          intro K hK
          go_simp
          refine hK _ _ (fun _ => HSH.out _ none (gb_same HG5.out (gb_alloc _ _ _)) (by simp)) ?_
          clear hK K
          refine wpAnyK_one (i := 8) (by kernel_rfl) rfl (by rfl) ?_
          intro K hK
          refine app_ch_op (33) (65) Try.underlying33 info_rch _ _ rfl (w.heap.size + 2) (.slice acv qs.length ccv) qs ((k : Int), pk) _ w5.heap.size _ rfl rfl (((H3.out.grown HG3.out).grown HG5.out).grown (gb_alloc _ _ _)) ((HO5.out.grown (gb_alloc _ _ none)).mono (by have := H6.out; omega)) HNE5.out (heap_at_alloc _ _) HQL.out (by have := H6.out; have := HG5.out.size; simp; omega) ?_
          intro v7 w7 h7 hg7 hf7
          obtain ⟨a7, c7, rfl⟩ := h7.slice
          rw [List.length_append, List.length_singleton] at h7
          have hlo : ∀ r, (Value.slice acv qs.length ccv).ownBlock = some r → w.heap.size + 2 ≤ r := fun r hr => (H3.out.1.lt r hr).1
          have HLO := Lib.hid hlo
          have HH7 := Lib.hid h7
          have HG7 := Lib.hid hg7
          have HP7 := Lib.hid (blk_kept' (blk_kept (blk_kept (blk_kept H2.out HG3.out) HG5.out) (gb_alloc _ _ none)) hg7 (fun e => by have := hlo _ e; omega))
          have f3 : w7.cell? ⟨w.heap.size + 1, 1, none⟩ = some (.slice acv qs.length ccv) := cell_row HP7.out
          have f4 : w7.frozen? ⟨w.heap.size + 1, 1, none⟩ = false := frozen_row HP7.out
          clear h7 hg7 hf7 hlo
          refine hK _ _ (fun _ => HSH.out _ _ (gb_trans (gb_none _ (gb_same HG5.out (gb_alloc _ _ none))) HG7.out (fun k hk => .inl hk)) HLO.out) ?_
          clear hK K
          refine wpAnyK_one (i := 9) (by kernel_rfl) rfl (by rfl) ?_
          intro K hK
          go_simp
          refine hK _ _ (fun _ => HSH.out _ _ (gb_trans (gb_none _ (gb_same HG5.out (gb_alloc _ _ none))) HG7.out (fun k hk => .inl hk)) HLO.out) ?_
          clear hK K
          refine wpAnyK_one (i := 10) (by kernel_rfl) rfl (by rfl) ?_
          intro K hK
          go_simp
          refine hK _ _ (fun h => Bool.noConfusion (show true = false from h)) ?_
          clear hK K
          refine wpAnyK_done (by kernel_rfl) ?_ _
          go_wp2
          obtain rfl := HPK.out
          exact ⟨⟨k + 1, by omega, by go_num, Lib.hid (RDInv.add H1.out H2.out H3.out H4.out H5.out H6.out HE.out (gb_same (gb_same HG3.out HG5.out) (gb_alloc _ _ none)) HH7.out HG7.out)⟩, by simp [intOf]; omega⟩
    · obtain rfl : k = N := by omega
      obtain ⟨cv, qs, h1, h2, h3, h4, h5, h6⟩ := HI.out
      obtain ⟨acv, ccv, rfl⟩ := h3.slice
      have H1 := Lib.hid h1
      have H2 := Lib.hid h2
      have H3 := Lib.hid h3
      have H4 := Lib.hid h4
      have H5 := Lib.hid h5
      have d0 : wr.cell? ⟨w.heap.size, 0, none⟩ = some (.int .i64 0) := cell_row h1
      have d1 : wr.cell? ⟨w.heap.size, 1, none⟩ = some (.slice none 0 0) := cell_row h1
      have d2 : wr.frozen? ⟨w.heap.size, 0, none⟩ = false := frozen_row h1
      have d3 : wr.frozen? ⟨w.heap.size, 1, none⟩ = false := frozen_row h1
      have c0 : wr.cell? ⟨w.heap.size + 1, 0, none⟩ = some (.int .i64 b.length) := cell_row h2
      have c1 : wr.cell? ⟨w.heap.size + 1, 1, none⟩ = some (.slice acv qs.length ccv) := cell_row h2
      clear h1 h2 h3 h4 h5 h6 HI
      go_wp2_with (go_at_call 14; refine (HC.out _).mono ?_; rintro e w' ⟨rfl, rfl⟩)
      have q1 := heap_setCell_same _ _ 0 _ _ (.int .i64 b.length) H1.out
      have q2 := heap_setCell_same _ _ 1 _ _ (.slice acv qs.length ccv) q1
      have gAB := gb_same (gb_setCell wr ⟨w.heap.size, 0, none⟩ (.int .i64 b.length)) (gb_setCell (wr.setCell ⟨w.heap.size, 0, none⟩ (.int .i64 b.length)) ⟨w.heap.size, 1, none⟩ (.slice acv qs.length ccv))
      have hc2 := H3.out.kept gAB (fun k hk => .inl (by cases hk; simp))
      obtain ⟨Y, hY⟩ : ∃ Y, (wr.setCell ⟨w.heap.size, 0, none⟩ (.int .i64 b.length)).setCell ⟨w.heap.size, 1, none⟩ (.slice acv qs.length ccv) = Y := ⟨_, rfl⟩
      rw [hY] at q2 gAB hc2 ⊢
      have y0 : Y.cell? ⟨w.heap.size, 0, none⟩ = some (.int .i64 b.length) := cell_row q2
      have y1 : Y.cell? ⟨w.heap.size, 1, none⟩ = some (.slice acv qs.length ccv) := cell_row q2
      refine bodyPost_ret (v := .tuple #[.agg #[.int .i64 b.length, .slice acv qs.length ccv], .int .i64 0]) (by simp [results, Try.results17, go_sem, y0, y1]) rfl ?_
      refine ⟨_, qs, rfl, ?_, hc2.mono (by omega), gb_trans H5.out gAB (fun k hk => .inr (by cases hk; simp))⟩
      rw [H4.out]
      unfold diffL
      rw [HN.out, Int.toNat_natCast]
end Go.Proofs.Ytnkgoaloigmmfaa
