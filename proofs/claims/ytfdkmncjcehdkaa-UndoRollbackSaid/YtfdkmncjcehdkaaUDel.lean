/-
  slices.Delete of the last records: the walk.
-/
import Derived.Test.YtfdkmncjcehdkaaUResize
namespace Go.Proofs.Ytfdkmncjcehdkaa
open Go.RowKit

theorem RRow.take {te : TypeId} {w : World} {B g n c : Nat} {ps : List RP} (h : RRow te w B (.slice (some ⟨g, 0, none⟩) n c) ps) (hn : ps.length = n) {k : Nat} (hk : k ≤ n) : RRow te w B (.slice (some ⟨g, 0, none⟩) k c) (ps.take k) := by
  have hl : (ps.take k).length = k := by rw [List.length_take]; omega
  obtain ⟨h1, h2⟩ := h
  refine ⟨by rw [cellsR_len], ?_⟩
  rw [hl]
  rcases h2 with ⟨h0, _⟩ | ⟨g', cap, cur, h0, hb, hg, hnc, hcm, hcs, htake⟩
  · cases h0
  · cases h0
    refine .inr ⟨g, c, cur, rfl, hb, hg, by omega, hcm, hcs, ?_⟩
    rw [cellsR_take, ← htake, List.take_take, Nat.min_eq_left (by omega)]
def zrow : List Value := [.int .i64 0, .int .i64 0, .slice none 0 0]
theorem zcells_len (n : Nat) : (Builtin.zeroCells (Value.agg #[.int .i64 0, .int .i64 0, .slice none 0 0]).cells n).toList.length = n * 3 := by
  rw [Array.length_toList, size_zeroCells]; rfl
theorem zcells_one (n : Nat) : ∀ u ∈ (Builtin.zeroCells (Value.agg #[.int .i64 0, .int .i64 0, .slice none 0 0]).cells n).toList, u.oneCell' = true := by
  intro u hu
  simp only [Builtin.zeroCells, Array.toList_map, List.mem_map] at hu
  obtain ⟨i, _, rfl⟩ := hu
  have h3 : (Value.agg #[.int .i64 0, .int .i64 0, .slice none 0 0]).cells = #[.int .i64 0, .int .i64 0, .slice none 0 0] := rfl
  rw [h3]
  have hi : i % 3 = 0 ∨ i % 3 = 1 ∨ i % 3 = 2 := by omega
  rcases hi with h | h | h
  · rw [show i % (#[Value.int .i64 0, .int .i64 0, .slice none 0 0] : Array Value).size = 0 from h]; rfl
  · rw [show i % (#[Value.int .i64 0, .int .i64 0, .slice none 0 0] : Array Value).size = 1 from h]; rfl
  · rw [show i % (#[Value.int .i64 0, .int .i64 0, .slice none 0 0] : Array Value).size = 2 from h]; rfl
theorem run_clear_recs {ts te : TypeId} (hu : Try.prog.underlying ts = some (.slice te)) (hin : RInfo te) (w : World) (g off n c : Nat) (cur : Array Value) {T : TypeId} (hg : w.heap[g]? = some (.cells cur T (0, 0))) (hn : 0 < n) (hfit : off + n * 3 ≤ cur.size) (ty : TypeId) :
    ∃ cs : Array Value, (Builtin.clear_ #[ts] ty #[.slice (some ⟨g, off, none⟩) n c]).run Try.prog w = .ok (.tuple #[]) (w.setRow g cs) ∧ cs.size = cur.size ∧ cs.toList.take off = cur.toList.take off := by
  obtain ⟨i0, hi, hz0, hz1, hz2⟩ := info_parts hin
  have hst := run_storeCells_at Try.prog g off T (Builtin.zeroCells (Value.agg #[.int .i64 0, .int .i64 0, .slice none 0 0]).cells n).toList 0 cur w hg (by rw [zcells_len]; omega) (zcells_one n)
  simp only [Nat.add_zero] at hst
  obtain ⟨m, rfl⟩ : ∃ m, n = m + 1 := ⟨n - 1, by omega⟩
  have hzl := zcells_len (m + 1)
  generalize hZ : (Builtin.zeroCells (Value.agg #[.int .i64 0, .int .i64 0, .slice none 0 0]).cells (m + 1)).toList = Z at hst hzl
  refine ⟨(cur.toList.take off ++ Z ++ cur.toList.drop (off + Z.length)).toArray, ?_, ?_, ?_⟩
  · simp only [Builtin.clear_]
    simp [run_underlying hu, zeroValue, typeInfo, hi, hz0]
    rw [hZ, hst]
    simp
  · simp only [List.size_toArray, List.length_append, List.length_take, List.length_drop, Array.length_toList]
    omega
  · rw [List.append_assoc, List.take_append_of_le_length (by rw [List.length_take, Array.length_toList]; omega), List.take_take, Nat.min_self]
theorem clear_step {ts te : TypeId} (hu : Try.prog.underlying ts = some (.slice te)) (hin : RInfo te) {ops : Array Oper} {rest : List Oper} {o : Oper} {a : Act} {w : World} {Q : Exit → Act → World → Prop} (hgd : o.guard = none) (x : Operand)
    (ho : o.op = .call { callee := .builtin .clear, args := #[x], argTypes := #[ts] }) (g off n c : Nat) (hx : a.eval x = .slice (some ⟨g, off, none⟩) n c) (cur : Array Value) {T : TypeId} (hg : w.heap[g]? = some (.cells cur T (0, 0))) (hn : 0 < n) (hfit : off + n * 3 ≤ cur.size)
    (h : ∀ cs : Array Value, cs.size = cur.size → cs.toList.take off = cur.toList.take off → wpList Try.prog ops Q rest (a.put o.dst (.tuple #[])) (w.setRow g cs)) : wpList Try.prog ops Q (o :: rest) a w := by
  obtain ⟨cs, hr, h1, h2⟩ := run_clear_recs hu hin w g off n c cur hg hn hfit o.type
  refine wpList_plain hgd fun _ hK => ?_
  unfold Oper.wp execOp
  simp only [ho, resolve, invoke, builtin, Sem.run_bind, Sem.run_pure, Result.andThen_ok, List.map_toArray, List.map_cons, List.map_nil, hx, hr]
  exact hK _ _ (h cs h1 h2)
/-- append of nothing to a row with room -/
theorem app_none_op {ts te : TypeId} (hu : Try.prog.underlying ts = some (.slice te)) (hin : RInfo te) {o : Oper} {a : Act} {w : World} {K : Act → World → Prop} {Q : Exit → Act → World → Prop} (s y : Operand)
    (ho : o.op = .call { callee := .builtin .append, args := #[s, y], argTypes := #[ts, ts] }) (g n c : Nat) (ps : List RP) (b off cy : Nat) (hs : a.eval s = .slice (some ⟨g, 0, none⟩) n c) (hy : a.eval y = .slice (some ⟨b, off, none⟩) 0 cy) (h : RRow te w 0 (.slice (some ⟨g, 0, none⟩) n c) ps) (hn : ps.length = n) (hc : n ≤ c)
    (hK : ∀ w', RRow te w' 0 (.slice (some ⟨g, 0, none⟩) n c) ps → w.grownBy w' (some g) → K (a.put o.dst (.slice (some ⟨g, 0, none⟩) n c)) w') : Oper.wp Try.prog o a w K Q := by
  obtain ⟨i0, hi, hz0, hz1, hz2⟩ := info_parts hin
  unfold RRow at h
  rw [hn] at h
  obtain ⟨w', hr', h2, h3⟩ := run_append_fits (P := Try.prog) w 0 ts o.type te i0 3 hu hi hz1 g n c (cellsR ps) h ⟨b, off, none⟩ 0 cy [] rfl (fun j u hj => by simp at hj) (by simp) (by omega)
  unfold Oper.wp execOp
  simp only [ho, resolve, invoke, builtin, Sem.run_bind, Sem.run_pure, Result.andThen_ok, List.map_toArray, List.map_cons, List.map_nil, hs, hy, hr']
  refine hK w' ?_ h3
  unfold RRow
  rw [hn]
  simpa using h2
def DelP (w : World) (v : Value) (ps : List RP) (n : Nat) (e : Ending) (w' : World) : Prop := ∃ v', e = .returned v' ∧ RRow 65 w' 0 v' (ps.take n) ∧ w.grownBy w' v.ownBlock ∧ v'.ownBlock = v.ownBlock
set_option maxRecDepth 100000 in
set_option maxHeartbeats 2000000 in
theorem delete_any (v : Value) (ps : List RP) (n : Nat) (w : World) (h : RRow 65 w 0 v ps) (hn : n ≤ ps.length) (hps : ps.length ≤ 1000000) :
    Calls Try.prog 38 #[v, .int .i64 (n : Int), .int .i64 (ps.length : Int)] w (DelP w v ps n) := by
  have H := Lib.hid h
  obtain ⟨m, hm⟩ : ∃ m, ps.length = m := ⟨_, rfl⟩
  rw [hm] at hn hps ⊢
  have HM := Lib.hid hm
  have hcase : (v = .slice none 0 0 ∧ m = 0) ∨ (∃ g c cur, v = .slice (some ⟨g, 0, none⟩) m c ∧ m ≤ c ∧ (c : Int) ≤ 9223372036854775807 ∧ w.heap[g]? = some (.cells cur 65 (0, 0)) ∧ cur.size = c * 3) := by
    rcases h.2 with ⟨h0, hz⟩ | ⟨g, c, cur, h0, _, hg, hnc, hcm, hcs, _⟩
    · exact .inl ⟨h0, by omega⟩
    · simp only [maxLen] at hcm; exact .inr ⟨g, c, cur, by rw [← hm]; exact h0, by omega, by omega, hg, hcs⟩
  clear h hm
  rcases hcase with ⟨rfl, rfl⟩ | ⟨g, c, cur, rfl, hmc, hcm, hg, hcs⟩
  · obtain rfl : n = 0 := by omega
    go_enter Try.func38, Try.ntmps38
    go_wp2
    go_ret
    exact ⟨_, rfl, RRow.nil _ _ _, gb_refl _ _, rfl⟩
  · by_cases hnm : n = m
    · subst hnm
      have HT : Hid (ps.take n = ps) := Lib.hid (List.take_of_length_le (by rw [HM.out]; exact Nat.le_refl _))
      clear hg hcs
      go_enter Try.func38, Try.ntmps38
      go_wp2
      go_ret
      exact ⟨_, rfl, by rw [HT.out]; exact H.out, gb_refl _ _, rfl⟩
    · have hlt : n < m := by omega
      have hne : ((n : Int) == (m : Int)) = false := by simp; omega
      have hncc : n ≤ c := by omega
      have HT := Lib.hid (H.out.take HM.out hn)
      have HTL : Hid ((ps.take n).length = n) := Lib.hid (by rw [List.length_take, HM.out]; omega)
      clear hg hcs hnm
      have hcd : c = m ∨ m < c := by omega
      rcases hcd with hcd | hcd
      · subst hcd
        go_enter Try.func38, Try.ntmps38
        go_wp2_with fail
        refine region_KL (fuel := 8) (listed := #[false, false, false, false, false, false, false, false]) (fun _ => True) 7 (by kernel_rfl) rfl (by kernel_rfl) ?_
        refine wpAnyK_takeL (i := 0) (d := 20) (v := ?_) (T' := ?_) (listed' := #[true, false, false, false, false, false, false, false]) rfl rfl (by kernel_rfl) (fun _ _ _ h => h) rfl (Or.inl ⟨by rfl, ?_⟩) ?_ trivial ?_
        rotate_left 2
        · intro w hS; clear hS; go_simp; rfl
        · simp only [List.setIfInBounds_toArray, List.set_cons_succ, List.set_cons_zero]; rfl
        refine wpAnyK_takeL (i := 1) (d := 21) (v := ?_) (T' := ?_) (listed' := #[true, true, false, false, false, false, false, false]) rfl rfl (by kernel_rfl) (fun _ _ _ h => h) rfl (Or.inl ⟨by rfl, ?_⟩) ?_ trivial ?_
        rotate_left 2
        · intro w hS; clear hS; go_simp; rfl
        · simp only [List.setIfInBounds_toArray, List.set_cons_succ, List.set_cons_zero]; rfl
        refine wpAnyK_takeL (i := 2) (d := 22) (v := ?_) (T' := ?_) (listed' := #[true, true, true, false, false, false, false, false]) rfl rfl (by kernel_rfl) (fun _ _ _ h => h) rfl (Or.inl ⟨by rfl, ?_⟩) ?_ trivial ?_
        rotate_left 2
        · intro w hS; clear hS; go_simp; rfl
        · simp only [List.setIfInBounds_toArray, List.set_cons_succ, List.set_cons_zero]; rfl
        refine wpAnyK_takeL (i := 3) (d := 23) (v := ?_) (T' := ?_) (listed' := #[true, true, true, true, false, false, false, false]) rfl rfl (by kernel_rfl) (fun _ _ _ h => h) rfl (Or.inl ⟨by rfl, ?_⟩) ?_ trivial ?_
        rotate_left 2
        · intro w hS; clear hS; go_simp; rfl
        · simp only [List.setIfInBounds_toArray, List.set_cons_succ, List.set_cons_zero]; rfl
        refine wpAnyK_takeL (i := 4) (d := 24) (v := ?_) (T' := ?_) (listed' := #[true, true, true, true, true, false, false, false]) rfl rfl (by kernel_rfl) (fun _ _ _ h => h) rfl (Or.inl ⟨by rfl, ?_⟩) ?_ trivial ?_
        rotate_left 2
        · intro w hS; clear hS; go_simp; rfl
        · simp only [List.setIfInBounds_toArray, List.set_cons_succ, List.set_cons_zero]; rfl
        refine wpAnyK_takeL (i := 5) (d := 25) (v := ?_) (T' := ?_) (listed' := #[true, true, true, true, true, true, false, false]) rfl rfl (by kernel_rfl) (fun _ _ _ h => h) rfl (Or.inl ⟨by rfl, ?_⟩) ?_ trivial ?_
        rotate_left 2
        · intro w hS; clear hS; go_simp; rfl
        · simp only [List.setIfInBounds_toArray, List.set_cons_succ, List.set_cons_zero]; rfl
        refine wpAnyK_oneL (i := 6) (listed' := #[true, true, true, true, true, true, true, false]) (by kernel_rfl) rfl (by rfl) rfl ?_
        intro K hK
        refine app_none_op Try.underlying42 info_rec _ _ rfl g n c (ps.take n) g 0 0 rfl rfl (HT.out.grown (gb_drew _ _)) HTL.out (by omega) ?_
        intro w2 h2 hg2
        have HR2 := Lib.hid h2
        have HG2 : Hid (w.grownBy w2 (some g)) := Lib.hid (gb_same (gb_drew _ _) hg2)
        clear h2 hg2
        refine hK _ _ (fun _ => trivial) ?_
        clear hK K
        refine wpAnyK_oneL (i := 7) (listed' := #[true, true, true, true, true, true, true, true]) (by kernel_rfl) rfl (by rfl) rfl ?_
        intro K hK
        go_simp
        refine hK _ _ (fun _ => trivial) ?_
        clear hK K
        refine wpAnyK_done (by kernel_rfl) ?_ _
        obtain ⟨cu, hgc, hcz, htk2⟩ : ∃ cu : Array Value, w2.heap[g]? = some (.cells cu 65 (0, 0)) ∧ cu.size = c * 3 ∧ cu.toList.take (n * 3) = cellsR (ps.take n) := by
          rcases HR2.out.2 with ⟨h0, _⟩ | ⟨g', cap, cu, h0, _, hgg, _, _, hcs, htk⟩
          · cases h0
          · simp only [Value.slice.injEq, Option.some.injEq, Addr.mk.injEq, and_true] at h0
            obtain ⟨rfl, _, rfl⟩ := h0
            rw [HTL.out] at htk
            exact ⟨cu, hgg, hcs, htk⟩
        have HGC := Lib.hid hgc
        have HCZ := Lib.hid hcz
        have HTK := Lib.hid htk2
        clear hgc hcz htk2
        go_wp2_with ((refine clear_step Try.underlying42 info_rec rfl (.tmp 31) rfl g (n * 3) (c - n) (c - n) rfl cu HGC.out (by omega) (by rw [HCZ.out]; omega) ?_); go_must (intro cs hc1 hc2; have HC1 := Lib.hid hc1; have HC2 := Lib.hid hc2; clear hc1 hc2))
        go_ret
        refine ⟨.slice (some ⟨g, 0, none⟩) n c, rfl, ?_, gb_same HG2.out (gb_setRow _ _ _), rfl⟩
        refine ⟨by rw [cellsR_len], .inr ⟨g, c, cs, by rw [HTL.out], Nat.zero_le _, setRow_heap w2 g cu cs _ _ HGC.out, by rw [HTL.out]; omega, by simp only [maxLen]; omega, by rw [HC1.out]; exact HCZ.out, by rw [HTL.out, HC2.out]; exact HTK.out⟩⟩
      · have hcm2 : (c = m) = False := by simp; omega
        go_enter Try.func38, Try.ntmps38
        go_wp2_with fail
        refine region_KL (fuel := 8) (listed := #[false, false, false, false, false, false, false, false]) (fun _ => True) 7 (by kernel_rfl) rfl (by kernel_rfl) ?_
        refine wpAnyK_takeL (i := 0) (d := 20) (v := ?_) (T' := ?_) (listed' := #[true, false, false, false, false, false, false, false]) rfl rfl (by kernel_rfl) (fun _ _ _ h => h) rfl (Or.inl ⟨by rfl, ?_⟩) ?_ trivial ?_
        rotate_left 2
        · intro w hS; clear hS; go_simp; rfl
        · simp only [List.setIfInBounds_toArray, List.set_cons_succ, List.set_cons_zero]; rfl
        refine wpAnyK_takeL (i := 1) (d := 21) (v := ?_) (T' := ?_) (listed' := #[true, true, false, false, false, false, false, false]) rfl rfl (by kernel_rfl) (fun _ _ _ h => h) rfl (Or.inl ⟨by rfl, ?_⟩) ?_ trivial ?_
        rotate_left 2
        · intro w hS; clear hS; go_simp; rfl
        · simp only [List.setIfInBounds_toArray, List.set_cons_succ, List.set_cons_zero]; rfl
        refine wpAnyK_takeL (i := 2) (d := 22) (v := ?_) (T' := ?_) (listed' := #[true, true, true, false, false, false, false, false]) rfl rfl (by kernel_rfl) (fun _ _ _ h => h) rfl (Or.inl ⟨by rfl, ?_⟩) ?_ trivial ?_
        rotate_left 2
        · intro w hS; clear hS; go_simp; rfl
        · simp only [List.setIfInBounds_toArray, List.set_cons_succ, List.set_cons_zero]; rfl
        refine wpAnyK_takeL (i := 3) (d := 23) (v := ?_) (T' := ?_) (listed' := #[true, true, true, true, false, false, false, false]) rfl rfl (by kernel_rfl) (fun _ _ _ h => h) rfl (Or.inl ⟨by rfl, ?_⟩) ?_ trivial ?_
        rotate_left 2
        · intro w hS; clear hS; go_simp; rfl
        · simp only [List.setIfInBounds_toArray, List.set_cons_succ, List.set_cons_zero]; rfl
        refine wpAnyK_takeL (i := 4) (d := 24) (v := ?_) (T' := ?_) (listed' := #[true, true, true, true, true, false, false, false]) rfl rfl (by kernel_rfl) (fun _ _ _ h => h) rfl (Or.inl ⟨by rfl, ?_⟩) ?_ trivial ?_
        rotate_left 2
        · intro w hS; clear hS; go_simp; rfl
        · simp only [List.setIfInBounds_toArray, List.set_cons_succ, List.set_cons_zero]; rfl
        refine wpAnyK_takeL (i := 5) (d := 25) (v := ?_) (T' := ?_) (listed' := #[true, true, true, true, true, true, false, false]) rfl rfl (by kernel_rfl) (fun _ _ _ h => h) rfl (Or.inl ⟨by rfl, ?_⟩) ?_ trivial ?_
        rotate_left 2
        · intro w hS; clear hS; go_simp; rfl
        · simp only [List.setIfInBounds_toArray, List.set_cons_succ, List.set_cons_zero]; rfl
        refine wpAnyK_oneL (i := 6) (listed' := #[true, true, true, true, true, true, true, false]) (by kernel_rfl) rfl (by rfl) rfl ?_
        intro K hK
        refine app_none_op Try.underlying42 info_rec _ _ rfl g n c (ps.take n) g (m * 3) (c - m) rfl rfl (HT.out.grown (gb_drew _ _)) HTL.out (by omega) ?_
        intro w2 h2 hg2
        have HR2 := Lib.hid h2
        have HG2 : Hid (w.grownBy w2 (some g)) := Lib.hid (gb_same (gb_drew _ _) hg2)
        clear h2 hg2
        refine hK _ _ (fun _ => trivial) ?_
        clear hK K
        refine wpAnyK_oneL (i := 7) (listed' := #[true, true, true, true, true, true, true, true]) (by kernel_rfl) rfl (by rfl) rfl ?_
        intro K hK
        go_simp
        refine hK _ _ (fun _ => trivial) ?_
        clear hK K
        refine wpAnyK_done (by kernel_rfl) ?_ _
        obtain ⟨cu, hgc, hcz, htk2⟩ : ∃ cu : Array Value, w2.heap[g]? = some (.cells cu 65 (0, 0)) ∧ cu.size = c * 3 ∧ cu.toList.take (n * 3) = cellsR (ps.take n) := by
          rcases HR2.out.2 with ⟨h0, _⟩ | ⟨g', cap, cu, h0, _, hgg, _, _, hcs, htk⟩
          · cases h0
          · simp only [Value.slice.injEq, Option.some.injEq, Addr.mk.injEq, and_true] at h0
            obtain ⟨rfl, _, rfl⟩ := h0
            rw [HTL.out] at htk
            exact ⟨cu, hgg, hcs, htk⟩
        have HGC := Lib.hid hgc
        have HCZ := Lib.hid hcz
        have HTK := Lib.hid htk2
        clear hgc hcz htk2
        go_wp2_with ((refine clear_step Try.underlying42 info_rec rfl (.tmp 31) rfl g (n * 3) (m - n) (c - n) rfl cu HGC.out (by omega) (by rw [HCZ.out]; omega) ?_); go_must (intro cs hc1 hc2; have HC1 := Lib.hid hc1; have HC2 := Lib.hid hc2; clear hc1 hc2))
        go_ret
        refine ⟨.slice (some ⟨g, 0, none⟩) n c, rfl, ?_, gb_same HG2.out (gb_setRow _ _ _), rfl⟩
        refine ⟨by rw [cellsR_len], .inr ⟨g, c, cs, by rw [HTL.out], Nat.zero_le _, setRow_heap w2 g cu cs _ _ HGC.out, by rw [HTL.out]; omega, by simp only [maxLen]; omega, by rw [HC1.out]; exact HCZ.out, by rw [HTL.out, HC2.out]; exact HTK.out⟩⟩
end Go.Proofs.Ytfdkmncjcehdkaa
