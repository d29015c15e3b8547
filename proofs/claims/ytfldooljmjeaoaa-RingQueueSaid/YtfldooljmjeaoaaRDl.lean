/-
  Messages: clear of a part of a row, slices.Delete of the first: the walks.
-/
import Derived.Test.YtfldooljmjeaoaaRMp
import Derived.Laws.OwnMore
namespace Go.Proofs.Ytfldooljmjeaoaa
open Go.RowKit Go.Shelf

theorem GRow.take {w : World} {B g n c : Nat} {ps : List GP} (h : GRow w B (.slice (some ⟨g, 0, none⟩) n c) ps) (hn : ps.length = n) {k : Nat} (hk : k ≤ n) : GRow w B (.slice (some ⟨g, 0, none⟩) k c) (ps.take k) := by
  have hl : (ps.take k).length = k := by rw [List.length_take]; omega
  obtain ⟨h1, h2⟩ := h
  refine ⟨by rw [cellsG_len], ?_⟩
  rw [hl]
  rcases h2 with ⟨h0, _⟩ | ⟨g', cap, cur, h0, hb, hg, hnc, hcm, hcs, htake⟩
  · cases h0
  · cases h0
    refine .inr ⟨g, c, cur, rfl, hb, hg, by omega, hcm, hcs, ?_⟩
    rw [cellsG_take, ← htake, List.take_take, Nat.min_eq_left (by omega)]
theorem zc_len (n : Nat) : (Builtin.zeroCells (Value.agg #[.int .i64 0, .int .i64 0, .int .i64 0, .int .i64 0, .int .i64 0, .int .i64 0, .int .i64 0, .int .i64 0, .slice none 0 0]).cells n).toList.length = n * 9 := by
  rw [Array.length_toList, size_zeroCells]; rfl
theorem zc_one (n : Nat) : ∀ u ∈ (Builtin.zeroCells (Value.agg #[.int .i64 0, .int .i64 0, .int .i64 0, .int .i64 0, .int .i64 0, .int .i64 0, .int .i64 0, .int .i64 0, .slice none 0 0]).cells n).toList, u.oneCell' = true := by
  intro u hu
  simp only [Builtin.zeroCells, Array.toList_map, List.mem_map] at hu
  obtain ⟨i, _, rfl⟩ := hu
  have h3 : (Value.agg #[.int .i64 0, .int .i64 0, .int .i64 0, .int .i64 0, .int .i64 0, .int .i64 0, .int .i64 0, .int .i64 0, .slice none 0 0]).cells = #[.int .i64 0, .int .i64 0, .int .i64 0, .int .i64 0, .int .i64 0, .int .i64 0, .int .i64 0, .int .i64 0, .slice none 0 0] := rfl
  rw [h3]
  have hi : i % 9 = 0 ∨ i % 9 = 1 ∨ i % 9 = 2 ∨ i % 9 = 3 ∨ i % 9 = 4 ∨ i % 9 = 5 ∨ i % 9 = 6 ∨ i % 9 = 7 ∨ i % 9 = 8 := by omega
  have hs : (#[.int .i64 0, .int .i64 0, .int .i64 0, .int .i64 0, .int .i64 0, .int .i64 0, .int .i64 0, .int .i64 0, .slice none 0 0] : Array Value).size = 9 := rfl
  rw [hs]
  rcases hi with h | h | h | h | h | h | h | h | h <;> rw [h] <;> rfl
theorem run_clear_msgs (w : World) (g off n c : Nat) (cur : Array Value) {T : TypeId} (hg : w.heap[g]? = some (.cells cur T (0, 0))) (hn : 0 < n) (hfit : off + n * 9 ≤ cur.size) (ty : TypeId) :
    ∃ cs : Array Value, (Builtin.clear_ #[30] ty #[.slice (some ⟨g, off, none⟩) n c]).run Try.prog w = .ok (.tuple #[]) (w.setRow g cs) ∧ cs.size = cur.size ∧ cs.toList.take off = cur.toList.take off := by
  obtain ⟨i0, hi, hz0, hz1, hz2⟩ := info_parts info_msg
  have hst := run_storeCells_at Try.prog g off T (Builtin.zeroCells (Value.agg #[.int .i64 0, .int .i64 0, .int .i64 0, .int .i64 0, .int .i64 0, .int .i64 0, .int .i64 0, .int .i64 0, .slice none 0 0]).cells n).toList 0 cur w hg (by rw [zc_len]; omega) (zc_one n)
  simp only [Nat.add_zero] at hst
  have hzl := zc_len n
  obtain ⟨m, rfl⟩ : ∃ m, n = m + 1 := ⟨n - 1, by omega⟩
  generalize hZ : (Builtin.zeroCells (Value.agg #[.int .i64 0, .int .i64 0, .int .i64 0, .int .i64 0, .int .i64 0, .int .i64 0, .int .i64 0, .int .i64 0, .slice none 0 0]).cells (m + 1)).toList = Z at hst hzl
  refine ⟨(cur.toList.take off ++ Z ++ cur.toList.drop (off + Z.length)).toArray, ?_, ?_, ?_⟩
  · simp only [Builtin.clear_]
    simp [run_underlying Try.underlying30, zeroValue, typeInfo, hi, hz0]
    rw [hZ, hst]
    simp
  · simp only [List.size_toArray, List.length_append, List.length_take, List.length_drop, Array.length_toList]
    omega
  · rw [List.append_assoc, List.take_append_of_le_length (by rw [List.length_take, Array.length_toList]; omega), List.take_take, Nat.min_self]
theorem mclear_step {ops : Array Oper} {rest : List Oper} {o : Oper} {a : Act} {w : World} {Q : Exit → Act → World → Prop} (hgd : o.guard = none) (x : Operand)
    (ho : o.op = .call { callee := .builtin .clear, args := #[x], argTypes := #[30] }) (g off n c : Nat) (hx : a.eval x = .slice (some ⟨g, off, none⟩) n c) (cur : Array Value) {T : TypeId} (hg : w.heap[g]? = some (.cells cur T (0, 0))) (hn : 0 < n) (hfit : off + n * 9 ≤ cur.size)
    (h : ∀ cs : Array Value, cs.size = cur.size → cs.toList.take off = cur.toList.take off → wpList Try.prog ops Q rest (a.put o.dst (.tuple #[])) (w.setRow g cs)) : wpList Try.prog ops Q (o :: rest) a w := by
  obtain ⟨cs, hr, h1, h2⟩ := run_clear_msgs w g off n c cur hg hn hfit o.type
  refine wpList_plain hgd fun _ hK => ?_
  unfold Oper.wp execOp
  simp only [ho, resolve, invoke, builtin, Sem.run_bind, Sem.run_pure, Result.andThen_ok, List.map_toArray, List.map_cons, List.map_nil, hx, hr]
  exact hK _ _ (h cs h1 h2)
/-- append of messages to a row with room -/
theorem mapp_fits_op {o : Oper} {a : Act} {w : World} {K : Act → World → Prop} {Q : Exit → Act → World → Prop} (s y : Operand)
    (ho : o.op = .call { callee := .builtin .append, args := #[s, y], argTypes := #[30, 30] }) (B g n c : Nat) (ps qs : List GP) (b off m cy : Nat) (hs : a.eval s = .slice (some ⟨g, 0, none⟩) n c) (hy : a.eval y = .slice (some ⟨b, off, none⟩) m cy) (h : GRow w B (.slice (some ⟨g, 0, none⟩) n c) ps) (hn : ps.length = n) (hm : qs.length = m)
    (hcell : ∀ (j : Nat) (u : Value), (cellsG qs)[j]? = some u → w.cell? ⟨b, off + j, none⟩ = some u) (hq : ∀ p ∈ qs, p.2.oneCell' = true) (hc : n + m ≤ c)
    (hK : ∀ w', GRow w' B (.slice (some ⟨g, 0, none⟩) (n + m) c) (ps ++ qs) → w.grownBy w' (some g) → K (a.put o.dst (.slice (some ⟨g, 0, none⟩) (n + m) c)) w') : Oper.wp Try.prog o a w K Q := by
  obtain ⟨i0, hi, hz0, hz1, hz2⟩ := info_parts info_msg
  unfold GRow at h
  rw [hn] at h
  obtain ⟨w', hr', h2, h3⟩ := run_append_fits (P := Try.prog) w B 30 o.type 39 i0 9 Try.underlying30 hi hz1 g n c (cellsG ps) h ⟨b, off, none⟩ m cy (cellsG qs) (by rw [cellsG_len, hm]) (fun j u hj => by rw [addr_add]; exact hcell j u hj) (cellsG_one qs hq) hc
  unfold Oper.wp execOp
  simp only [ho, resolve, invoke, builtin, Sem.run_bind, Sem.run_pure, Result.andThen_ok, List.map_toArray, List.map_cons, List.map_nil, hs, hy, hr']
  refine hK w' ?_ h3
  unfold GRow
  rw [List.length_append, hn, hm, cellsG_append]
  exact h2
def DelM (w : World) (B : Nat) (v : Value) (ps : List GP) (e : Ending) (w' : World) : Prop := ∃ v', e = .returned v' ∧ GRow w' B v' ps ∧ w.grownBy w' v.ownBlock ∧ v'.ownBlock = v.ownBlock
theorem gnil_take {w : World} {B g n c : Nat} {ps : List GP} (h : GRow w B (.slice (some ⟨g, 0, none⟩) n c) ps) (hn : ps.length = n) : GRow w B (.slice (some ⟨g, 0, none⟩) 0 c) [] := h.take hn (Nat.zero_le _)
theorem GRow.cur {w : World} {B g n c : Nat} {ps : List GP} (h : GRow w B (.slice (some ⟨g, 0, none⟩) n c) ps) (hn : ps.length = n) : ∃ cu : Array Value, w.heap[g]? = some (.cells cu 39 (0, 0)) ∧ cu.size = c * 9 ∧ cu.toList.take (n * 9) = cellsG ps ∧ B ≤ g ∧ n ≤ c ∧ c ≤ maxLen := by
  rcases h.2 with ⟨h0, _⟩ | ⟨g', cap, cu, h0, hB, hgg, h1, h2, hcs, htk⟩
  · cases h0
  · simp only [Value.slice.injEq, Option.some.injEq, Addr.mk.injEq, and_true] at h0
    obtain ⟨rfl, _, rfl⟩ := h0
    rw [hn] at htk h1
    exact ⟨cu, hgg, hcs, htk, hB, h1, h2⟩
set_option maxRecDepth 100000 in
set_option maxHeartbeats 2000000 in
theorem delete1_any (v : Value) (B : Nat) (p : GP) (qs : List GP) (w : World) (h : GRow w B v (p :: qs)) (hq : ∀ q ∈ qs, q.2.oneCell' = true) :
    Calls Try.prog 35 #[v, .int .i64 0, .int .i64 1] w (DelM w B v qs) := by
  obtain ⟨m, hm⟩ : ∃ m, (p :: qs).length = m := ⟨_, rfl⟩
  obtain ⟨k, hk⟩ : ∃ k, qs.length = k := ⟨_, rfl⟩
  have hmk : m = k + 1 := by rw [← hm, ← hk]; rfl
  obtain ⟨a, c, rfl, _, _⟩ := h.slice
  rw [hm] at h ⊢
  have ha : ∃ g, a = some ⟨g, 0, none⟩ := by
    rcases h.2 with ⟨h0, hz⟩ | ⟨g, _, _, h0, _⟩
    · simp at hz
    · cases h0; exact ⟨g, rfl⟩
  obtain ⟨g, rfl⟩ := ha
  obtain ⟨_, _, _, _, _, hmc, hcm⟩ := h.cur hm
  simp only [maxLen] at hcm
  have HC : Hid (∀ (j : Nat) (u : Value), (cellsG qs)[j]? = some u → w.drew.cell? ⟨g, 9 + j, none⟩ = some u) := Lib.hid (fun j u hj => by
    have e : (cellsG (p :: qs))[9 + j]? = some u := by
      have h9 : (rowG p).length = 9 := rfl
      rw [show cellsG (p :: qs) = rowG p ++ cellsG qs by simp [cellsG], List.getElem?_append_right (by omega), h9, Nat.add_sub_cancel_left]
      exact hj
    have hl : 9 + j < m * 9 := by
      have := (List.getElem?_eq_some_iff.1 e).1
      rw [cellsG_len, hm] at this
      exact this
    have h0 := h.grown (gb_drew w none)
    unfold GRow at h0
    rw [hm] at h0
    rw [World.ownsRow.cellAt h0 _ hl]
    exact e)
  have HN := Lib.hid ((gnil_take h hm).grown (gb_drew w none))
  have HQ := Lib.hid hq
  have HK := Lib.hid hk
  have HMK := Lib.hid hmk
  have h1c : 1 ≤ c := by omega
  have h1m : 1 ≤ m := by omega
  clear h hm hk hq
  have hcd : c = 1 ∨ 1 < c := by omega
  rcases hcd with hcd | hcd
  · subst hcd
    obtain rfl : k = 0 := by omega
    obtain rfl : m = 1 := by omega
    clear hmk
    go_enter Try.func35, Try.ntmps35
    go_wp2_with fail
    refine region_KL (fuel := 8) (listed := #[false, false, false, false, false, false, false, false]) (fun _ => True) 7 (by kernel_rfl) rfl (by kernel_rfl) ?_
    refine wpAnyK_takeL (i := 0) (d := 20) (v := ?_) (T' := ?_) (listed' := #[true, false, false, false, false, false, false, false]) rfl rfl (by kernel_rfl) (fun _ _ _ h => h) rfl (Or.inl ⟨by rfl, ?_⟩) ?_ trivial ?_
    rotate_left 2
    · intro w hS; clear hS; go_simp; rfl
    · simp only [List.setIfInBounds_toArray, List.set_cons_succ, List.set_cons_zero]; rfl
    refine wpAnyK_takeL (i := 1) (d := 21) (v := ?_) (T' := ?_) (listed' := #[true, true, false, false, false, false, false, false]) rfl rfl (by kernel_rfl) (fun _ _ _ h => h) rfl (Or.inl ⟨by rfl, ?_⟩) ?_ trivial ?_
    rotate_left 2
    · intro w hS; clear hS; go_simp; rfl
    · simp only [List.setIfInBounds_toArray, List.set_cons_succ, List.set_cons_zero]; rfl
    refine wpAnyK_takeL (i := 2) (d := 22) (v := ?_) (T' := ?_) (listed' := #[true, true, true, false, false, false, false, false]) rfl rfl (by kernel_rfl) (fun _ _ _ h => h) rfl (Or.inl ⟨by rfl, ?_⟩) ?_ trivial ?_
    rotate_left 2
    · intro w hS; clear hS; go_simp; rfl
    · simp only [List.setIfInBounds_toArray, List.set_cons_succ, List.set_cons_zero]; rfl
    refine wpAnyK_takeL (i := 3) (d := 23) (v := ?_) (T' := ?_) (listed' := #[true, true, true, true, false, false, false, false]) rfl rfl (by kernel_rfl) (fun _ _ _ h => h) rfl (Or.inl ⟨by rfl, ?_⟩) ?_ trivial ?_
    rotate_left 2
    · intro w hS; clear hS; go_simp; rfl
    · simp only [List.setIfInBounds_toArray, List.set_cons_succ, List.set_cons_zero]; rfl
    refine wpAnyK_takeL (i := 4) (d := 24) (v := ?_) (T' := ?_) (listed' := #[true, true, true, true, true, false, false, false]) rfl rfl (by kernel_rfl) (fun _ _ _ h => h) rfl (Or.inl ⟨by rfl, ?_⟩) ?_ trivial ?_
    rotate_left 2
    · intro w hS; clear hS; go_simp; rfl
    · simp only [List.setIfInBounds_toArray, List.set_cons_succ, List.set_cons_zero]; rfl
    refine wpAnyK_takeL (i := 5) (d := 25) (v := ?_) (T' := ?_) (listed' := #[true, true, true, true, true, true, false, false]) rfl rfl (by kernel_rfl) (fun _ _ _ h => h) rfl (Or.inl ⟨by rfl, ?_⟩) ?_ trivial ?_
    rotate_left 2
    · intro w hS; clear hS; go_simp; rfl
    · simp only [List.setIfInBounds_toArray, List.set_cons_succ, List.set_cons_zero]; rfl
    refine wpAnyK_oneL (i := 6) (listed' := #[true, true, true, true, true, true, true, false]) (by kernel_rfl) rfl (by rfl) rfl ?_
    intro K hK
    refine mapp_fits_op _ _ rfl B g 0 1 [] qs g 0 0 0 rfl rfl HN.out rfl HK.out (fun j u hj => by have := List.eq_nil_of_length_eq_zero HK.out; subst this; simp [cellsG] at hj) HQ.out (by omega) ?_
    intro w2 h2 hg2
    rw [Nat.zero_add, List.nil_append] at h2
    simp only [Nat.zero_add]
    have HR2 := Lib.hid h2
    have HG2 : Hid (w.grownBy w2 (some g)) := Lib.hid (gb_same (gb_drew _ _) hg2)
    clear h2 hg2
    refine hK _ _ (fun _ => trivial) ?_
    clear hK K
    refine wpAnyK_oneL (i := 7) (listed' := #[true, true, true, true, true, true, true, true]) (by kernel_rfl) rfl (by rfl) rfl ?_
    intro K hK
    go_simp
    refine hK _ _ (fun _ => trivial) ?_
    clear hK K
    refine wpAnyK_done (by kernel_rfl) ?_ _
    obtain ⟨cu, hgc, hcz, htk2, hBg, _, _⟩ := HR2.out.cur HK.out
    have HGC := Lib.hid hgc
    have HCZ := Lib.hid hcz
    have HTK := Lib.hid htk2
    have HBG := Lib.hid hBg
    clear hgc hcz htk2 hBg
    go_wp2_with ((refine mclear_step rfl (.tmp 31) rfl g (0 * 9) (1 - 0) (1 - 0) rfl cu HGC.out (by omega) (by rw [HCZ.out]; omega) ?_); go_must (intro cs hc1' hc2'; have HC1 := Lib.hid hc1'; have HC2 := Lib.hid hc2'; clear hc1' hc2'))
    go_ret
    refine ⟨.slice (some ⟨g, 0, none⟩) 0 1, rfl, ?_, gb_same HG2.out (gb_setRow _ _ _), rfl⟩
    refine ⟨by rw [cellsG_len], .inr ⟨g, 1, cs, by rw [HK.out], HBG.out, setRow_heap w2 g cu cs _ _ HGC.out, by rw [HK.out]; omega, by simp only [maxLen]; omega, by rw [HC1.out]; exact HCZ.out, by rw [HK.out, HC2.out]; exact HTK.out⟩⟩
  · have hc1 : (c = 1) = False := by simp; omega
    have hc2 : ((c : Int) = 1) = False := by simp; omega
    have h1mi : (1 : Int) ≤ (m : Int) := by omega
    have HE : Hid (m - 1 = k) := Lib.hid (by omega)
    have HKM : Hid (k < m ∧ k < c) := Lib.hid (by omega)
    clear hmk
    go_enter Try.func35, Try.ntmps35
    go_wp2_with fail
    refine region_KL (fuel := 8) (listed := #[false, false, false, false, false, false, false, false]) (fun _ => True) 7 (by kernel_rfl) rfl (by kernel_rfl) ?_
    refine wpAnyK_takeL (i := 0) (d := 20) (v := ?_) (T' := ?_) (listed' := #[true, false, false, false, false, false, false, false]) rfl rfl (by kernel_rfl) (fun _ _ _ h => h) rfl (Or.inl ⟨by rfl, ?_⟩) ?_ trivial ?_
    rotate_left 2
    · intro w hS; clear hS; go_simp; rfl
    · simp only [List.setIfInBounds_toArray, List.set_cons_succ, List.set_cons_zero]; rfl
    refine wpAnyK_takeL (i := 1) (d := 21) (v := ?_) (T' := ?_) (listed' := #[true, true, false, false, false, false, false, false]) rfl rfl (by kernel_rfl) (fun _ _ _ h => h) rfl (Or.inl ⟨by rfl, ?_⟩) ?_ trivial ?_
    rotate_left 2
    · intro w hS; clear hS; go_simp; rfl
    · simp only [List.setIfInBounds_toArray, List.set_cons_succ, List.set_cons_zero]; rfl
    refine wpAnyK_takeL (i := 2) (d := 22) (v := ?_) (T' := ?_) (listed' := #[true, true, true, false, false, false, false, false]) rfl rfl (by kernel_rfl) (fun _ _ _ h => h) rfl (Or.inl ⟨by rfl, ?_⟩) ?_ trivial ?_
    rotate_left 2
    · intro w hS; clear hS; go_simp; rfl
    · simp only [List.setIfInBounds_toArray, List.set_cons_succ, List.set_cons_zero]; rfl
    refine wpAnyK_takeL (i := 3) (d := 23) (v := ?_) (T' := ?_) (listed' := #[true, true, true, true, false, false, false, false]) rfl rfl (by kernel_rfl) (fun _ _ _ h => h) rfl (Or.inl ⟨by rfl, ?_⟩) ?_ trivial ?_
    rotate_left 2
    · intro w hS; clear hS; go_simp; rfl
    · simp only [List.setIfInBounds_toArray, List.set_cons_succ, List.set_cons_zero]; rfl
    refine wpAnyK_takeL (i := 4) (d := 24) (v := ?_) (T' := ?_) (listed' := #[true, true, true, true, true, false, false, false]) rfl rfl (by kernel_rfl) (fun _ _ _ h => h) rfl (Or.inl ⟨by rfl, ?_⟩) ?_ trivial ?_
    rotate_left 2
    · intro w hS; clear hS; go_simp; rfl
    · simp only [List.setIfInBounds_toArray, List.set_cons_succ, List.set_cons_zero]; rfl
    refine wpAnyK_takeL (i := 5) (d := 25) (v := ?_) (T' := ?_) (listed' := #[true, true, true, true, true, true, false, false]) rfl rfl (by kernel_rfl) (fun _ _ _ h => h) rfl (Or.inl ⟨by rfl, ?_⟩) ?_ trivial ?_
    rotate_left 2
    · intro w hS; clear hS; go_simp; rfl
    · simp only [List.setIfInBounds_toArray, List.set_cons_succ, List.set_cons_zero]; rfl
    refine wpAnyK_oneL (i := 6) (listed' := #[true, true, true, true, true, true, true, false]) (by kernel_rfl) rfl (by rfl) rfl ?_
    intro K hK
    refine mapp_fits_op _ _ rfl B g 0 c [] qs g 9 (m - 1) (c - 1) rfl rfl HN.out rfl (by have := HK.out; have := HE.out; omega) HC.out HQ.out (by have := HKM.out; omega) ?_
    intro w2 h2 hg2
    rw [Nat.zero_add, List.nil_append] at h2
    simp only [Nat.zero_add]
    rw [HE.out] at h2 ⊢
    have HR2 := Lib.hid h2
    have HG2 : Hid (w.grownBy w2 (some g)) := Lib.hid (gb_same (gb_drew _ _) hg2)
    clear h2 hg2
    refine hK _ _ (fun _ => trivial) ?_
    clear hK K
    refine wpAnyK_oneL (i := 7) (listed' := #[true, true, true, true, true, true, true, true]) (by kernel_rfl) rfl (by rfl) rfl ?_
    intro K hK
    go_simp
    refine hK _ _ (fun _ => trivial) ?_
    clear hK K
    refine wpAnyK_done (by kernel_rfl) ?_ _
    obtain ⟨cu, hgc, hcz, htk2, hBg, _, _⟩ := HR2.out.cur HK.out
    have HGC := Lib.hid hgc
    have HCZ := Lib.hid hcz
    have HTK := Lib.hid htk2
    have HBG := Lib.hid hBg
    clear hgc hcz htk2 hBg
    have hkm := HKM.out.1
    have hkc := HKM.out.2
    go_wp2_with ((refine mclear_step rfl (.tmp 31) rfl g (k * 9) (m - k) (c - k) rfl cu HGC.out (by omega) (by rw [HCZ.out]; omega) ?_); go_must (intro cs hc1' hc2'; have HC1 := Lib.hid hc1'; have HC2 := Lib.hid hc2'; clear hc1' hc2'))
    go_ret
    refine ⟨.slice (some ⟨g, 0, none⟩) k c, rfl, ?_, gb_same HG2.out (gb_setRow _ _ _), rfl⟩
    refine ⟨by rw [cellsG_len], .inr ⟨g, c, cs, by rw [HK.out], HBG.out, setRow_heap w2 g cu cs _ _ HGC.out, by rw [HK.out]; omega, by simp only [maxLen]; omega, by rw [HC1.out]; exact HCZ.out, by rw [HK.out, HC2.out]; exact HTK.out⟩⟩
end Go.Proofs.Ytfldooljmjeaoaa
