/-
  The reference's Few; image.Equal with slices.EqualFunc: the walks.
-/
import Derived.Test.YtnkgoaloigmmfaaIRApply
namespace Go.Proofs.Ytnkgoaloigmmfaa
open Go.RowKit

def fewB (L : Int) (cs : List CT) : Bool := decide (L ≤ 2000) && decide (cs.length ≤ 20) && cs.all (fun c => decide (c.2.length ≤ 300))

set_option maxRecDepth 100000 in
set_option maxHeartbeats 4000000 in
theorem few_any (L : Int) (cv : Value) (ps : List ChP) (w : World) (hc : RdCs w cv ps) :
    Calls Try.prog 20 #[.agg #[.int .i64 L, cv]] w (BoolQ (fewB L (ps.map (·.1))) w) := by
  have hs := hc.small
  obtain ⟨a, c, rfl⟩ := hc.len
  have HCS := Lib.hid hc
  obtain ⟨w0, hw0⟩ : ∃ w0, w.alloc (Obj.cells #[.int .i64 L, .slice a ps.length c] 35) = w0 := ⟨_, rfl⟩
  have hb0 := heap_at_alloc w (Obj.cells #[.int .i64 L, .slice a ps.length c] 35)
  have hg0 := gb_alloc w (Obj.cells #[.int .i64 L, .slice a ps.length c] 35) none
  rw [hw0] at hb0 hg0
  have HW0 := Lib.hid hw0
  have HG0 := Lib.hid hg0
  have c0 : w0.cell? ⟨w.heap.size, 0, none⟩ = some (.int .i64 L) := cell_row hb0
  have c1 : w0.cell? ⟨w.heap.size, 1, none⟩ = some (.slice a ps.length c) := cell_row hb0
  clear hc hw0 hb0 hg0
  go_enter Try.func20, Try.ntmps20
  go_wp2
  rw [HW0.out]
  go_loop [3] (fun i => ∃ k : Nat, k ≤ ps.length ∧ i = .int .i64 k ∧ Hid (∀ j, j < k → ∀ p, ps[j]? = some p → p.1.2.length ≤ 300)) (fun i => ps.length - (intOf i).toNat)
  case atStart => exact ⟨0, Nat.zero_le _, rfl, Lib.hid (fun j hj => by omega)⟩
  case round =>
    obtain ⟨k, hk, rfl, HK⟩ := hrel
    by_cases hlt : k < ps.length
    · obtain ⟨p, hp⟩ : ∃ p, ps[k]? = some p := ⟨ps[k], by simp [hlt]⟩
      obtain ⟨b, off, rfl, q0, q1⟩ := HCS.out.at hp
      obtain ⟨ad, cd, e1⟩ := (HCS.out.2 p (List.mem_of_getElem? hp)).len
      have hsm := (HCS.out.2 p (List.mem_of_getElem? hp)).small
      rw [e1] at q1
      have r1 := HG0.out.cell q1 (by simp)
      have HP := Lib.hid hp
      clear q0 q1 e1 hp
      by_cases h3 : p.1.2.length ≤ 300
      · have hd : decide ((300 : Int) < p.1.2.length) = false := by simp; omega
        have HK2 : Hid (∀ j, j < k + 1 → ∀ p, ps[j]? = some p → p.1.2.length ≤ 300) := Lib.hid (fun j hj q hq => by
          by_cases e : j = k
          · subst e; rw [HP.out] at hq; cases hq; exact h3
          · exact HK.out j (by omega) q hq)
        clear h3
        go_wp2
        go_round
        case rel => exact ⟨k + 1, by omega, by go_num, HK2⟩
        case measure => simp [intOf]; omega
      · have hd : decide ((300 : Int) < p.1.2.length) = true := by simp; omega
        have HF : Hid (fewB L (ps.map (·.1)) = false) := Lib.hid (by
          unfold fewB
          rw [Bool.and_eq_false_iff]
          right
          rw [Bool.eq_false_iff]
          intro h
          rw [List.all_eq_true] at h
          have := h p.1 (List.mem_map_of_mem (List.mem_of_getElem? HP.out))
          simp at this
          exact h3 this)
        clear h3
        go_wp2
        go_ret
        exact ⟨by rw [HF.out]; rfl, HG0.out⟩
    · obtain rfl : k = ps.length := by omega
      have hall : (ps.map (·.1)).all (fun c => decide (c.2.length ≤ 300)) = true := by
        rw [List.all_eq_true]
        intro c hc
        rw [List.mem_map] at hc
        obtain ⟨p, hp, rfl⟩ := hc
        obtain ⟨i, hi⟩ := List.getElem?_of_mem hp
        have hlt := (List.getElem?_eq_some_iff.1 hi).1
        simpa using HK.out i hlt p hi
      have HF : Hid (fewB L (ps.map (·.1)) = (decide (L ≤ 2000) && decide (ps.length ≤ 20))) := Lib.hid (by unfold fewB; rw [hall, List.length_map, Bool.and_true])
      clear hall HK
      by_cases hL1 : L ≤ 2000
      · have hd1 : decide (L ≤ 2000) = true := by simpa using hL1
        by_cases hn1 : ps.length ≤ 20
        · have hd2 : decide ((ps.length : Int) ≤ 20) = true := by simp; omega
          have hd3 : decide (ps.length ≤ 20) = true := by simpa using hn1
          rw [hd1, hd3] at HF
          go_wp2
          go_ret
          exact ⟨by rw [HF.out]; rfl, HG0.out⟩
        · have hd2 : decide ((ps.length : Int) ≤ 20) = false := by simp; omega
          have hd3 : decide (ps.length ≤ 20) = false := by simpa using hn1
          rw [hd1, hd3] at HF
          go_wp2
          go_ret
          exact ⟨by rw [HF.out]; rfl, HG0.out⟩
      · have hd1 : decide (L ≤ 2000) = false := by simpa using hL1
        rw [hd1, Bool.false_and] at HF
        go_wp2
        go_ret
        exact ⟨by rw [HF.out]; rfl, HG0.out⟩

theorem eqc_any (k1 k2 : Int) (v1 v2 : Value) (l1 l2 : List UInt8) (w : World) (h1 : RdW w v1 l1) (h2 : RdW w v2 l2) :
    Calls Try.prog 37 #[.agg #[.int .i64 k1, v1], .agg #[.int .i64 k2, v2]] w (BoolQ (((k1, l1) : CT) == (k2, l2)) w) := by
  obtain ⟨a1, c1, rfl⟩ := h1.len
  obtain ⟨a2, c2, rfl⟩ := h2.len
  have HE := Lib.hid (fun W (hg : w.grownBy W none) => equal_w _ _ l1 l2 W (h1.grown hg) (h2.grown hg))
  have HB : Hid (((((k1, l1) : CT) == (k2, l2))) = ((k1 == k2) && (l1 == l2))) := Lib.hid rfl
  have HG : Hid (w.grownBy ((w.alloc (Obj.cells #[.int .i64 k1, .slice a1 l1.length c1] 57)).alloc (Obj.cells #[.int .i64 k2, .slice a2 l2.length c2] 57)) none) := Lib.hid (gb_same (gb_alloc _ _ _) (gb_alloc _ _ _))
  clear h1 h2
  cases hk : k1 == k2
  · rw [hk] at HB
    go_enter Try.func37, Try.ntmps37
    go_wp2
    go_ret
    exact ⟨by rw [HB.out]; rfl, HG.out⟩
  · rw [hk, Bool.true_and] at HB
    generalize (l1 == l2) = q at *
    go_enter Try.func37, Try.ntmps37
    go_wp2_with (go_at_call 33; refine (HE.out _ HG.out).mono ?_; rintro e w' ⟨rfl, rfl⟩)
    go_ret
    exact ⟨by rw [HB.out]; rfl, HG.out⟩

set_option maxRecDepth 100000 in
set_option maxHeartbeats 4000000 in
theorem eqf_any (v1 v2 : Value) (ps qs : List ChP) (w : World) (h1 : RdCs w v1 ps) (h2 : RdCs w v2 qs) :
    Calls Try.prog 36 #[v1, v2, .func (.func 37) #[] #[]] w (BoolQ (ps.map (·.1) == qs.map (·.1)) w) := by
  have hs1 := h1.small
  have hs2 := h2.small
  obtain ⟨a1, c1, rfl⟩ := h1.len
  obtain ⟨a2, c2, rfl⟩ := h2.len
  have HR1 := Lib.hid h1
  have HR2 := Lib.hid h2
  clear h1 h2
  by_cases hn : ps.length = qs.length
  · have hnn : ((ps.length : Int) == (qs.length : Int)) = true := by rw [hn]; simp
    have hnn2 : ((ps.length : Int) != (qs.length : Int)) = false := by rw [hn]; simp
    have HN := Lib.hid hn
    clear hn
    go_enter Try.func36, Try.ntmps36
    go_wp2
    go_loopw [17] (fun i wr => ∃ k : Nat, k ≤ ps.length ∧ i = .int .i64 k ∧ Hid ((ps.map (·.1)).take k = (qs.map (·.1)).take k) ∧ Hid (w.grownBy wr none)) (fun i _ => ps.length - (intOf i).toNat)
    case atStart => exact ⟨0, Nat.zero_le _, rfl, Lib.hid rfl, Lib.hid (gb_refl _ _)⟩
    case round =>
      obtain ⟨k, hk, rfl, HE, HX⟩ := hrel
      by_cases hlt : k < ps.length
      · have hlt2 : k < qs.length := by have := HN.out; omega
        obtain ⟨p, hp⟩ : ∃ p, ps[k]? = some p := ⟨ps[k], by simp [hlt]⟩
        obtain ⟨q, hq⟩ : ∃ q, qs[k]? = some q := ⟨qs[k], by simp [hlt2]⟩
        obtain ⟨b1, o1, rfl, q0, q1⟩ := HR1.out.at hp
        obtain ⟨b2, o2, rfl, q2, q3⟩ := HR2.out.at hq
        have hgw := HX.out
        have hrp := (HR1.out.2 p (List.mem_of_getElem? hp)).grown hgw
        have hrq := (HR2.out.2 q (List.mem_of_getElem? hq)).grown hgw
        obtain ⟨ad1, cd1, e1⟩ := hrp.len
        obtain ⟨ad2, cd2, e2⟩ := hrq.len
        rw [e1] at q1 hrp
        rw [e2] at q3 hrq
        have r0 := hgw.cell q0 (by simp)
        have r1 := hgw.cell q1 (by simp)
        have hp1 : (ps.map (·.1))[k]? = some p.1 := by rw [List.getElem?_map, hp]; rfl
        have hq1 : (qs.map (·.1))[k]? = some q.1 := by rw [List.getElem?_map, hq]; rfl
        have HNE : Hid (p.1 ≠ q.1 → (ps.map (·.1) == qs.map (·.1)) = false) := Lib.hid (fun h => by
          rw [beq_eq_false_iff_ne]; intro e; rw [e, hq1] at hp1; exact h (Option.some.inj hp1).symm)
        have HST : Hid (p.1 = q.1 → (ps.map (·.1)).take (k + 1) = (qs.map (·.1)).take (k + 1)) := Lib.hid (fun h => by rw [List.take_add_one, List.take_add_one, HE.out, hp1, hq1, h])
        have g1 : wr.grownBy (wr.alloc (Obj.cells #[.int .i64 p.1.1, .slice ad1 p.1.2.length cd1] 57)) none := gb_alloc _ _ _
        have r2 := g1.cell (hgw.cell q2 (by simp)) (by simp)
        have r3 := g1.cell (hgw.cell q3 (by simp)) (by simp)
        obtain ⟨W1, hW1⟩ : ∃ W1, wr.alloc (Obj.cells #[.int .i64 p.1.1, .slice ad1 p.1.2.length cd1] 57) = W1 := ⟨_, rfl⟩
        rw [hW1] at g1
        obtain ⟨W2, hW2⟩ : ∃ W2, W1.alloc (Obj.cells #[.int .i64 q.1.1, .slice ad2 q.1.2.length cd2] 57) = W2 := ⟨_, rfl⟩
        have g2 : W1.grownBy W2 none := by rw [← hW2]; exact gb_alloc _ _ _
        have b8 : W2.heap[wr.heap.size]? = some (Obj.cells #[.int .i64 p.1.1, .slice ad1 p.1.2.length cd1] 57 (0, 0)) := blk_kept (by rw [← hW1]; exact heap_at_alloc _ _) g2
        have b9 : W2.heap[W1.heap.size]? = some (Obj.cells #[.int .i64 q.1.1, .slice ad2 q.1.2.length cd2] 57 (0, 0)) := by rw [← hW2]; exact heap_at_alloc _ _
        have t0 : W2.cell? ⟨wr.heap.size, 0, none⟩ = some (.int .i64 p.1.1) := cell_row b8
        have t1 : W2.cell? ⟨wr.heap.size, 1, none⟩ = some (.slice ad1 p.1.2.length cd1) := cell_row b8
        have t2 : W2.cell? ⟨W1.heap.size, 0, none⟩ = some (.int .i64 q.1.1) := cell_row b9
        have t3 : W2.cell? ⟨W1.heap.size, 1, none⟩ = some (.slice ad2 q.1.2.length cd2) := cell_row b9
        have HC := Lib.hid (eqc_any p.1.1 q.1.1 _ _ p.1.2 q.1.2 W2 (hrp.grown (gb_same g1 g2)) (hrq.grown (gb_same g1 g2)))
        have HGG := Lib.hid (gb_same HX.out (gb_same g1 g2))
        have HW1 := Lib.hid hW1
        have HW2 := Lib.hid hW2
        clear hW1 hW2 g1 g2 b8 b9 q0 q1 q2 q3 hgw hrp hrq e1 e2 hp hq hp1 hq1
        have hcc : (((p.1.1, p.1.2) : CT) == (q.1.1, q.1.2)) = (p.1 == q.1) := rfl
        rw [hcc] at HC
        clear hcc
        by_cases hpq : p.1 = q.1
        · have HO := Lib.hid (HST.out hpq)
          rw [beq_iff_eq.2 hpq] at HC
          clear hpq HST HNE
          generalize p.1.2.length = n1 at *
          generalize q.1.2.length = n2 at *
          go_wp2_with fail
          rw [HW1.out]
          go_wp2_with fail
          rw [HW2.out]
          refine (HC.out).mono ?_
          rintro e w' ⟨rfl, hg3⟩
          have HG3 := Lib.hid (gb_same HGG.out hg3)
          clear hg3
          go_wp2
          go_round
          case rel => exact ⟨k + 1, by omega, by go_num, HO, HG3⟩
          case measure => simp [intOf]; omega
        · have HO := Lib.hid (HNE.out hpq)
          rw [beq_eq_false_iff_ne.2 hpq] at HC
          clear hpq HST HNE
          generalize p.1.2.length = n1 at *
          generalize q.1.2.length = n2 at *
          go_wp2_with fail
          rw [HW1.out]
          go_wp2_with fail
          rw [HW2.out]
          refine (HC.out).mono ?_
          rintro e w' ⟨rfl, hg3⟩
          have HG3 := Lib.hid (gb_same HGG.out hg3)
          clear hg3
          go_wp2
          go_ret
          exact ⟨by rw [HO.out]; rfl, HG3.out⟩
      · obtain rfl : k = ps.length := by omega
        have HO : Hid ((ps.map (·.1) == qs.map (·.1)) = true) := Lib.hid (by
          have h := HE.out
          rw [List.take_of_length_le (by simp), List.take_of_length_le (by simp [HN.out])] at h
          rw [h]; simp)
        go_wp2
        go_ret
        exact ⟨by rw [HO.out]; rfl, HX.out⟩
  · have hnn : ((ps.length : Int) == (qs.length : Int)) = false := by rw [beq_eq_false_iff_ne]; omega
    have hnn2 : ((ps.length : Int) != (qs.length : Int)) = true := by rw [bne, hnn]; rfl
    have HO : Hid ((ps.map (·.1) == qs.map (·.1)) = false) := Lib.hid (by
      rw [beq_eq_false_iff_ne]; intro e; exact hn (by have := congrArg List.length e; simpa using this))
    clear hn
    go_enter Try.func36, Try.ntmps36
    go_wp2
    go_ret
    exact ⟨by rw [HO.out]; rfl, gb_refl _ _⟩
end Go.Proofs.Ytnkgoaloigmmfaa
