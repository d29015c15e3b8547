/-
  The reference's Equal: the walk.
-/
import Derived.Test.YtnkgoaloigmmfaaITo
namespace Go.Proofs.Ytnkgoaloigmmfaa
open Go.RowKit

def eqP (L1 L2 : Int) (cs ds : List CT) : Bool := (L1 == L2) && (cs == ds)
theorem eqP_true {L : Int} {cs : List CT} : eqP L L cs cs = true := by unfold eqP; simp
theorem eqP_len {L1 L2 : Int} {cs ds : List CT} (h : cs.length ≠ ds.length) : eqP L1 L2 cs ds = false := by
  unfold eqP
  rw [Bool.and_eq_false_iff]
  right
  rw [beq_eq_false_iff_ne]
  intro e; exact h (by rw [e])
theorem eqP_at {L1 L2 : Int} {cs ds : List CT} {k : Nat} {c d : CT} (h1 : cs[k]? = some c) (h2 : ds[k]? = some d) (h : c ≠ d) : eqP L1 L2 cs ds = false := by
  unfold eqP
  rw [Bool.and_eq_false_iff]
  right
  rw [beq_eq_false_iff_ne]
  intro e; rw [e, h2] at h1; exact h (Option.some.inj h1).symm
theorem eqP_ne {L1 L2 : Int} {cs ds : List CT} (h : L1 ≠ L2) : eqP L1 L2 cs ds = false := by
  unfold eqP
  rw [Bool.and_eq_false_iff]
  left
  simpa using h

set_option maxRecDepth 100000 in
set_option maxHeartbeats 4000000 in
theorem requal_any (L1 L2 : Int) (v1 v2 : Value) (ps qs : List ChP) (w : World) (h1 : RdCs w v1 ps) (h2 : RdCs w v2 qs) :
    Calls Try.prog 18 #[.agg #[.int .i64 L1, v1], .agg #[.int .i64 L2, v2]] w (BoolQ (eqP L1 L2 (ps.map (·.1)) (qs.map (·.1))) w) := by
  have hs1 := h1.small
  have hs2 := h2.small
  obtain ⟨a1, c1, rfl⟩ := h1.len
  obtain ⟨a2, c2, rfl⟩ := h2.len
  have HR1 := Lib.hid h1
  have HR2 := Lib.hid h2
  obtain ⟨W, hW⟩ : ∃ W, (w.alloc (Obj.cells #[.int .i64 L1, .slice a1 ps.length c1] 35)).alloc (Obj.cells #[.int .i64 L2, .slice a2 qs.length c2] 35) = W := ⟨_, rfl⟩
  have hg : w.grownBy W none := by rw [← hW]; exact gb_same (gb_alloc _ _ _) (gb_alloc _ _ _)
  have k0 : W.heap[w.heap.size]? = some (.cells #[.int .i64 L1, .slice a1 ps.length c1] 35 (0, 0)) := by rw [← hW]; exact blk_kept (heap_at_alloc _ _) (gb_alloc _ _ _)
  have k1 : W.heap[w.heap.size + 1]? = some (.cells #[.int .i64 L2, .slice a2 qs.length c2] 35 (0, 0)) := by rw [← hW]; have := heap_at_alloc (w.alloc (Obj.cells #[.int .i64 L1, .slice a1 ps.length c1] 35)) (Obj.cells #[.int .i64 L2, .slice a2 qs.length c2] 35); rw [World.size_alloc] at this; exact this
  have HW := Lib.hid hW
  have HG := Lib.hid hg
  have K0 := Lib.hid k0
  have K1 := Lib.hid k1
  clear h1 h2 hW hg k0 k1
  by_cases hL : L1 = L2
  · subst hL
    have hLL : (L1 == L1) = true := by simp
    by_cases hn : ps.length = qs.length
    · have hnn : ((ps.length : Int) == (qs.length : Int)) = true := by rw [hn]; simp
      have hnn2 : ((ps.length : Int) != (qs.length : Int)) = false := by rw [hn]; simp
      have HN := Lib.hid hn
      clear hn
      go_enter Try.func18, Try.ntmps18
      go_wp2
      rw [HW.out]
      go_loopw [5] (fun i wr => ∃ k : Nat, k ≤ ps.length ∧ i = .int .i64 k ∧ Hid ((ps.map (·.1)).take k = (qs.map (·.1)).take k) ∧ Hid (W.grownBy wr none)) (fun i _ => ps.length - (intOf i).toNat)
      case atStart => exact ⟨0, Nat.zero_le _, rfl, Lib.hid rfl, Lib.hid (gb_refl _ _)⟩
      case round =>
        obtain ⟨k, hk, rfl, HE, HX⟩ := hrel
        have d1 : wr.cell? ⟨w.heap.size, 1, none⟩ = some (.slice a1 ps.length c1) := cell_row (blk_kept K0.out HX.out)
        have d2 : wr.cell? ⟨w.heap.size + 1, 1, none⟩ = some (.slice a2 qs.length c2) := cell_row (blk_kept K1.out HX.out)
        by_cases hlt : k < ps.length
        · have hlt2 : k < qs.length := by have := HN.out; omega
          obtain ⟨p, hp⟩ : ∃ p, ps[k]? = some p := ⟨ps[k], by simp [hlt]⟩
          obtain ⟨q, hq⟩ : ∃ q, qs[k]? = some q := ⟨qs[k], by simp [hlt2]⟩
          obtain ⟨b1, o1, rfl, q0, q1⟩ := HR1.out.at hp
          obtain ⟨b2, o2, rfl, q2, q3⟩ := HR2.out.at hq
          have hgw := gb_same HG.out HX.out
          have hrp := (HR1.out.2 p (List.mem_of_getElem? hp)).grown hgw
          have hrq := (HR2.out.2 q (List.mem_of_getElem? hq)).grown hgw
          obtain ⟨ad1, cd1, e1⟩ := hrp.len
          obtain ⟨ad2, cd2, e2⟩ := hrq.len
          rw [e1] at q1 hrp
          rw [e2] at q3 hrq
          have r0 := hgw.cell q0 (by simp)
          have r1 := hgw.cell q1 (by simp)
          have r2 := hgw.cell q2 (by simp)
          have r3 := hgw.cell q3 (by simp)
          have t1 := fun n => run_toStringW (wr.drewN n) _ _ (hrp.grown (gb_drewN _ _ _))
          have t2 := fun n => run_toStringW (wr.drewN n) _ _ (hrq.grown (gb_drewN _ _ _))
          have hp1 : (ps.map (·.1))[k]? = some p.1 := by rw [List.getElem?_map, hp]; rfl
          have hq1 : (qs.map (·.1))[k]? = some q.1 := by rw [List.getElem?_map, hq]; rfl
          have HNE : Hid (p.1 ≠ q.1 → eqP L1 L1 (ps.map (·.1)) (qs.map (·.1)) = false) := Lib.hid (fun h => eqP_at hp1 hq1 h)
          have HST : Hid (p.1 = q.1 → (ps.map (·.1)).take (k + 1) = (qs.map (·.1)).take (k + 1)) := Lib.hid (fun h => by rw [List.take_add_one, List.take_add_one, HE.out, hp1, hq1, h])
          clear q0 q1 q2 q3 hgw hrp hrq e1 e2 hp hq hp1 hq1
          obtain ⟨⟨pk, pd⟩, pv⟩ := p
          obtain ⟨⟨qk, qd⟩, qv⟩ := q
          simp only at *
          by_cases hkk : pk = qk
          · have hkb : (pk != qk) = false := by simpa using hkk
            have hs := str_beq pd qd
            by_cases hdd : pd = qd
            · have HO := Lib.hid (HST.out (by rw [hkk, hdd]))
              have hsb : ((str pd).toList != (str qd).toList) = false := by rw [bne, hs, hdd]; simp
              rw [beq_iff_eq.2 hdd] at hs
              clear hkk hdd
              go_wp2
              go_quiet (fail)
              go_wp2
              exact ⟨⟨k + 1, by omega, by go_num, HO, Lib.hid (gb_same HX.out (gb_drewN _ _ _))⟩, by simp [intOf]; omega⟩
            · have HO := Lib.hid (HNE.out (by intro e; exact hdd (congrArg (·.2) e)))
              have hsb : ((str pd).toList != (str qd).toList) = true := by rw [bne, hs, beq_eq_false_iff_ne.2 hdd]; rfl
              rw [beq_eq_false_iff_ne.2 hdd] at hs
              clear hkk hdd
              go_wp2
              go_quiet (fail)
              go_wp2
              go_ret
              exact ⟨by rw [HO.out]; rfl, gb_same (gb_same HG.out HX.out) (gb_drewN _ _ _)⟩
          · have hkb : (pk != qk) = true := by simpa using hkk
            have HO := Lib.hid (HNE.out (by intro e; exact hkk (congrArg (·.1) e)))
            clear hkk
            go_wp2
            go_quiet (fail)
            go_wp2
            go_ret
            exact ⟨by rw [HO.out]; rfl, gb_same (gb_same HG.out HX.out) (gb_drewN _ _ _)⟩
        · obtain rfl : k = ps.length := by omega
          have HO : Hid (eqP L1 L1 (ps.map (·.1)) (qs.map (·.1)) = true) := Lib.hid (by
            have h := HE.out
            rw [List.take_of_length_le (by simp), List.take_of_length_le (by simp [HN.out])] at h
            rw [h]; exact eqP_true)
          go_wp2
          go_ret
          exact ⟨by rw [HO.out]; rfl, gb_same HG.out HX.out⟩
    · have hnn : ((ps.length : Int) == (qs.length : Int)) = false := by rw [beq_eq_false_iff_ne]; omega
      have hnn2 : ((ps.length : Int) != (qs.length : Int)) = true := by rw [bne, hnn]; rfl
      have HO := Lib.hid (eqP_len (L1 := L1) (L2 := L1) (cs := ps.map (·.1)) (ds := qs.map (·.1)) (by simpa using hn))
      clear hn
      go_enter Try.func18, Try.ntmps18
      go_wp2
      go_ret
      exact ⟨by rw [HO.out]; rfl, by rw [HW.out]; exact HG.out⟩
  · have hLL : (L1 == L2) = false := by simpa using hL
    have hLL2 : (L1 != L2) = true := by simpa using hL
    have HO := Lib.hid (eqP_ne (cs := ps.map (·.1)) (ds := qs.map (·.1)) hL)
    clear hL
    go_enter Try.func18, Try.ntmps18
    go_wp2
    go_ret
    exact ⟨by rw [HO.out]; rfl, by rw [HW.out]; exact HG.out⟩
end Go.Proofs.Ytnkgoaloigmmfaa
