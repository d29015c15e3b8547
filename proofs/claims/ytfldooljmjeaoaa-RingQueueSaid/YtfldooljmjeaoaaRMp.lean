/-
  NewQueue, Len and Put of a queue of messages: the walks.
-/
import Derived.Test.YtfldooljmjeaoaaRS
namespace Go.Proofs.Ytfldooljmjeaoaa
open Go.RowKit Go.Shelf

def NewM (n : Nat) (w : World) (e : Ending) (w' : World) : Prop :=
  ∃ g, e = .returned (.tuple #[.pointer (some ⟨g, 0, none⟩), .int .i64 0]) ∧ w.heap.size ≤ g ∧ w.grownBy w' none ∧ IsM w' w.heap.size g n (.slice none 0 0) []
set_option maxRecDepth 100000 in
theorem newM_any (n : Nat) (w : World) (hn : 0 < n) (hn2 : n ≤ 200) : Calls Try.prog 6 #[.int .i64 n] w (NewM n w) := by
  have h1 : ¬ (n : Int) < 1 := by omega
  have h2 : ¬ (200 : Int) < n := by omega
  go_enter Try.func6, Try.ntmps6
  go_wp2
  go_ret2
  exact ⟨_, rfl, Nat.le_refl _, gb_alloc _ _ _, ⟨heap_at_alloc _ _, GRow.nil _ _, by simp, by simp [Value.ownBlock], by simp, Nat.zero_le _, hn2⟩⟩
def NoM (n : Int) (w : World) (e : Ending) (w' : World) : Prop := e = .returned (.tuple #[.pointer none, .int .i64 n]) ∧ w = w'
set_option maxRecDepth 100000 in
theorem newM_no (n : Int) (w : World) (hn : n < 1 ∨ 200 < n) : Calls Try.prog 6 #[.int .i64 n] w (NoM 2 w) := by
  by_cases h1 : n < 1
  · clear hn
    go_enter Try.func6, Try.ntmps6
    go_wp2
    go_ret2
    exact ⟨rfl, rfl⟩
  · have h2 : 200 < n := by omega
    clear hn
    go_enter Try.func6, Try.ntmps6
    go_wp2
    go_ret2
    exact ⟨rfl, rfl⟩
set_option maxRecDepth 100000 in
theorem lenM_any {w : World} {B g n : Nat} {v : Value} {ps : List GP} (h : IsM w B g n v ps) : Calls Try.prog 19 #[.pointer (some ⟨g, 0, none⟩)] w fun e w' => e = .returned (.int .i64 (ps.length : Nat)) ∧ w = w' := by
  have hc := h.c1
  obtain ⟨a, c, rfl, _, _⟩ := h.row.slice
  clear h
  go_enter Try.func19, Try.ntmps19
  go_wp2
  go_ret
  exact ⟨rfl, rfl⟩

theorem row_cells {w : World} {g : Nat} {x0 x1 x2 x3 x4 x5 x6 x7 x8 : Value} {T : TypeId} (h : w.heap[g]? = some (.cells #[x0, x1, x2, x3, x4, x5, x6, x7, x8] T (0, 0))) :
    w.cell? ⟨g, 0, none⟩ = some x0 ∧ w.cell? ⟨g, 1, none⟩ = some x1 ∧ w.cell? ⟨g, 2, none⟩ = some x2 ∧ w.cell? ⟨g, 3, none⟩ = some x3 ∧ w.cell? ⟨g, 4, none⟩ = some x4 ∧ w.cell? ⟨g, 5, none⟩ = some x5 ∧ w.cell? ⟨g, 6, none⟩ = some x6 ∧ w.cell? ⟨g, 7, none⟩ = some x7 ∧ w.cell? ⟨g, 8, none⟩ = some x8 :=
  ⟨cell_row h, cell_row h, cell_row h, cell_row h, cell_row h, cell_row h, cell_row h, cell_row h, cell_row h⟩
def putME (n : Nat) (ps : List GP) (m : Mg) : Int := if n ≤ ps.length ∨ 1536 < m.z.length then 6 else 0
def PutM (w : World) (B g n : Nat) (v : Value) (ps : List GP) (m : Mg) (e : Ending) (w' : World) : Prop :=
  e = .returned (.int .i64 (putME n ps m)) ∧
  ((putME n ps m ≠ 0 ∧ w.grownBy w' none) ∨ (putME n ps m = 0 ∧ ∃ v' dv', IsM w' B g n v' (ps ++ [(m, dv')]) ∧ KM w w' g v ∧ Fr w v v' ∧ Own w' w.heap.size dv' m.z))
/-- the queue with one more message -/
theorem IsM.push {w w3 w5 w6 : World} {B g n : Nat} {v v' dv : Value} {ps : List GP} {m : Mg} (h : IsM w B g n v ps) (hn : ps.length < n) (hg3 : w.grownBy w3 none) (hd : Own w3 w.heap.size dv m.z) (hg5 : w3.grownBy w5 none) (hg6 : w5.grownBy w6 v.ownBlock)
    (h6 : GRow w6 B v' (ps ++ [(m, dv)])) (hf : Fr w5 v v') :
    IsM (w6.setCell ⟨g, 1, none⟩ v') B g n v' (ps ++ [(m, dv)]) ∧ KM w (w6.setCell ⟨g, 1, none⟩ v') g v ∧ Fr w v v' ∧ Own (w6.setCell ⟨g, 1, none⟩ v') w.heap.size dv m.z := by
  have hs3 := hg3.size
  have hs5 := hg5.size
  have hs6 := hg6.size
  have hgl := h.lt
  have hvl := h.row.lt
  have hdl := hd.lt
  have hfr : Fr w v v' := fun k hk => by
    rcases hf k hk with h1 | h1
    · exact .inl h1
    · exact .inr (by omega)
  have hv'g : v'.ownBlock ≠ some g := fun e => by
    rcases hf g e with h1 | h1
    · exact h.ne h1
    · omega
  have hblk : w6.heap[g]? = some (.cells #[.int .i64 (n : Int), v] 61 (0, 0)) := by
    rw [hg6.block g (by omega) (fun e => h.ne e.symm)]
    exact blk_kept (blk_kept h.blk hg3) hg5
  have hd6 : Own (w6.setCell ⟨g, 1, none⟩ v') w.heap.size dv m.z := ((hd.grown hg5).kept hg6 (fun k hk e => by have := (hvl k e).2; have := (hdl k hk).1; omega)).kept (gb_setCell _ _ _) (fun k hk e => by
    have := (hdl k hk).1
    simp at e
    omega)
  refine ⟨⟨?_, ?_, ?_, hv'g, ?_, by simp; omega, h.le⟩, ?_, hfr, hd6⟩
  · rw [blk_set hblk]; simp
  · exact h6.kept (gb_setCell _ _ _) (fun k hk e => hv'g (by simp at e; rw [hk, e]))
  · intro p hp
    rcases List.mem_append.1 hp with hp | hp
    · by_cases hz : p.1.z = []
      · have h1 := h.data p hp
        rw [hz] at h1 ⊢
        rcases h1 with h4 | ⟨b, off, cap, h4, h5, h7, h8⟩
        · exact .inl h4
        · exact .inr ⟨b, off, cap, h4, h5, h7, fun j x hj => by simp at hj⟩
      · have h1 := h.dne p hp hz
        exact ((((h.data p hp).grown hg3).grown hg5).kept hg6 (fun k hk e => (h1 k hk).2 e)).kept (gb_setCell _ _ _) (fun k hk e => (h1 k hk).1 (by simp at e; exact e.symm))
    · simp at hp
      subst hp
      exact hd6.rd
  · intro p hp hz k hk
    rcases List.mem_append.1 hp with hp | hp
    · have h1 := h.dne p hp hz k hk
      refine ⟨h1.1, fun e => ?_⟩
      rcases hf k e with h2 | h2
      · exact h1.2 h2
      · have := (h.data p hp).blk hz k hk; omega
    · simp at hp
      subst hp
      have h1 := hdl k hk
      refine ⟨by omega, fun e => ?_⟩
      rcases hf k e with h2 | h2
      · have := (hvl k h2).2; omega
      · omega
  · exact (KM.of (row := none) (gb_same hg3 hg5) (.inl rfl)).trans ((KM.of hg6 (.inr (.inr rfl))).trans (KM.of (v := v) (gb_setCell _ _ _) (.inr (.inl rfl))) (Fr.refl _ _)) (Fr.refl _ _)
set_option maxRecDepth 100000 in
set_option maxHeartbeats 4000000 in
theorem putM_any {w : World} {B g n : Nat} {v : Value} {ps : List GP} (h : IsM w B g n v ps) (hB : B ≤ w.heap.size) (m : Mg) (dv : Value) (hv : RdW w dv m.z) :
    Calls Try.prog 12 #[.pointer (some ⟨g, 0, none⟩), .agg (m.row dv)] w (PutM w B g n v ps m) := by
  have hsm := hv.small
  have hle := h.le
  have hcn := h.cnt
  obtain ⟨a, c, rfl⟩ := hv.len
  obtain ⟨av, cv, rfl, _, _⟩ := h.row.slice
  have HV := Lib.hid hv
  have H := Lib.hid h
  have hc0 := h.c0
  have hc1 := h.c1
  have hgl := h.lt
  clear h hv
  unfold PutM
  by_cases hfull : n ≤ ps.length
  · have hE : putME n ps m = 6 := by unfold putME; rw [if_pos (.inl hfull)]
    rw [hE]
    have hf : (n : Int) ≤ (ps.length : Int) := by omega
    clear hfull hE
    go_enter Try.func12, Try.ntmps12
    go_wp2
    go_quiet (fail)
    go_wp2
    go_ret
    exact ⟨rfl, .inl ⟨by decide, gb_same (gb_alloc _ _ _) (gb_drewN _ _ _)⟩⟩
  · have hf : ¬ (n : Int) ≤ (ps.length : Int) := by omega
    by_cases hlong : 1536 < m.z.length
    · have hE : putME n ps m = 6 := by unfold putME; rw [if_pos (.inr hlong)]
      rw [hE]
      have hl : (1536 : Int) < (m.z.length : Int) := by omega
      clear hfull hE hlong
      unfold Mg.row
      go_enter Try.func12, Try.ntmps12
      go_wp2
      go_quiet (fail)
      go_wp2
      go_ret
      exact ⟨rfl, .inl ⟨by decide, gb_same (gb_alloc _ _ _) (gb_drewN _ _ _)⟩⟩
    · have hl : ¬ (1536 : Int) < (m.z.length : Int) := by omega
      have hE : putME n ps m = 0 := by unfold putME; rw [if_neg (by omega)]
      rw [hE]
      have HPN : Hid (ps.length < n) := Lib.hid (by omega)
      have HZL : Hid (m.z.length ≤ 140737488355328) := Lib.hid (by omega)
      clear hfull hE hlong
      have hcl := cloneM_any m
      have HCL := Lib.hid hcl
      clear hcl
      unfold Mg.row at HCL ⊢
      unfold CloneM Mg.row at HCL
      go_enter Try.func12, Try.ntmps12
      go_wp2
      go_quiet (fail)
      go_wp2_with fail
      have hb0 : ((w.alloc (.cells #[.int .i64 m.s, .int .i64 m.d, .int .i64 m.k, .int .i64 m.q, .int .i64 m.a, .int .i64 m.b, .int .i64 m.c, .int .i64 m.e, .slice a m.z.length c] 39)).drewN nq).drew.heap[w.heap.size]? = some (.cells #[.int .i64 m.s, .int .i64 m.d, .int .i64 m.k, .int .i64 m.q, .int .i64 m.a, .int .i64 m.b, .int .i64 m.c, .int .i64 m.e, .slice a m.z.length c] 39 (0, 0)) := heap_at_alloc w _
      have hga : w.grownBy ((w.alloc (.cells #[.int .i64 m.s, .int .i64 m.d, .int .i64 m.k, .int .i64 m.q, .int .i64 m.a, .int .i64 m.b, .int .i64 m.c, .int .i64 m.e, .slice a m.z.length c] 39)).drewN nq).drew none := gb_same (gb_same (gb_alloc _ _ _) (gb_drewN _ _ _)) (gb_drew _ _)
      refine region_KL (fuel := 12) (listed := #[false, false, false, false, false, false, false, false, false, false, false, false]) (fun X => X.cell? ⟨g, 1, none⟩ = some (.slice av ps.length cv) ∧ X.heap[w.heap.size]? = some (.cells #[.int .i64 m.s, .int .i64 m.d, .int .i64 m.k, .int .i64 m.q, .int .i64 m.a, .int .i64 m.b, .int .i64 m.c, .int .i64 m.e, .slice a m.z.length c] 39 (0, 0))) 11 (by kernel_rfl) rfl (by kernel_rfl) ?_
      generalize ((w.alloc (.cells #[.int .i64 m.s, .int .i64 m.d, .int .i64 m.k, .int .i64 m.q, .int .i64 m.a, .int .i64 m.b, .int .i64 m.c, .int .i64 m.e, .slice a m.z.length c] 39)).drewN nq).drew = w2 at *
      have HG2 := Lib.hid hga
      have HB2 := Lib.hid hb0
      have HS0 : Hid (w2.cell? ⟨g, 1, none⟩ = some (.slice av ps.length cv) ∧ w2.heap[w.heap.size]? = some (.cells #[.int .i64 m.s, .int .i64 m.d, .int .i64 m.k, .int .i64 m.q, .int .i64 m.a, .int .i64 m.b, .int .i64 m.c, .int .i64 m.e, .slice a m.z.length c] 39 (0, 0))) := Lib.hid ⟨(H.out.grown hga).c1, hb0⟩
      clear hb0 hga hc0 hc1
      refine wpAnyK_takeL (i := 0) (d := 23) (v := ?_) (T' := ?_) (listed' := #[true, false, false, false, false, false, false, false, false, false, false, false]) rfl rfl (by kernel_rfl) (fun _ _ _ h => h) rfl (Or.inl ⟨by rfl, ?_⟩) ?_ HS0.out ?_
      rotate_left 2
      · intro w hS; clear hS; go_simp; rfl
      · simp only [List.setIfInBounds_toArray, List.set_cons_succ, List.set_cons_zero]; rfl
      refine wpAnyK_takeL (i := 1) (d := 24) (v := ?_) (T' := ?_) (listed' := #[true, true, false, false, false, false, false, false, false, false, false, false]) rfl rfl (by kernel_rfl) (fun _ _ _ h => h) rfl (Or.inl ⟨by rfl, ?_⟩) ?_ HS0.out ?_
      rotate_left 2
      · intro w hS; clear hS; go_simp; rfl
      · simp only [List.setIfInBounds_toArray, List.set_cons_succ, List.set_cons_zero]; rfl
      refine wpAnyK_takeL (i := 2) (d := 25) (v := ?_) (T' := ?_) (listed' := #[true, true, true, false, false, false, false, false, false, false, false, false]) rfl rfl (by kernel_rfl) (fun _ _ _ h => h) rfl (Or.inl ⟨by rfl, ?_⟩) ?_ HS0.out ?_
      rotate_left 2
      · intro w hS; clear hS; go_simp; rfl
      · simp only [List.setIfInBounds_toArray, List.set_cons_succ, List.set_cons_zero]; rfl
      refine wpAnyK_takeL (i := 3) (d := 26) (v := ?_) (T' := ?_) (listed' := #[true, true, true, true, false, false, false, false, false, false, false, false]) rfl rfl (by kernel_rfl) (fun _ _ _ h => h) rfl (Or.inl ⟨by rfl, ?_⟩) ?_ HS0.out ?_
      rotate_left 2
      · intro w hS; clear hS; go_simp; rfl
      · simp only [List.setIfInBounds_toArray, List.set_cons_succ, List.set_cons_zero]; rfl
      refine wpAnyK_takeL (i := 4) (d := 27) (v := ?_) (T' := ?_) (listed' := #[true, true, true, true, true, false, false, false, false, false, false, false]) rfl rfl (by kernel_rfl) (fun _ _ _ h => h) rfl (Or.inl ⟨by rfl, ?_⟩) ?_ HS0.out ?_
      rotate_left 2
      · intro w hS; have t0 := hS.1; clear hS; go_simp; rfl
      · simp only [List.setIfInBounds_toArray, List.set_cons_succ, List.set_cons_zero]; rfl
      refine wpAnyK_takeL (i := 5) (d := 28) (v := ?_) (T' := ?_) (listed' := #[true, true, true, true, true, true, false, false, false, false, false, false]) rfl rfl (by kernel_rfl) (fun _ _ _ h => h) rfl (Or.inl ⟨by rfl, ?_⟩) ?_ HS0.out ?_
      rotate_left 2
      · intro w hS; obtain ⟨t0, t1, t2, t3, t4, t5, t6, t7, t8⟩ := row_cells hS.2; clear hS; go_simp; rfl
      · simp only [List.setIfInBounds_toArray, List.set_cons_succ, List.set_cons_zero]; rfl
      refine wpAnyK_oneL (i := 6) (listed' := #[true, true, true, true, true, true, true, false, false, false, false, false]) (by kernel_rfl) rfl (by rfl) rfl ?_
      intro K hK
      go_simp
      refine (HCL.out _ w2 (HV.out.grown HG2.out) HZL.out).mono ?_
      rintro e w3 ⟨dv3, rfl, ho3, hg3⟩
      have HO3 := Lib.hid (ho3.mono HG2.out.size)
      have HG3 := Lib.hid (gb_same HG2.out hg3)
      have HS3 : Hid (w3.cell? ⟨g, 1, none⟩ = some (.slice av ps.length cv) ∧ w3.heap[w.heap.size]? = some (.cells #[.int .i64 m.s, .int .i64 m.d, .int .i64 m.k, .int .i64 m.q, .int .i64 m.a, .int .i64 m.b, .int .i64 m.c, .int .i64 m.e, .slice a m.z.length c] 39 (0, 0))) := Lib.hid ⟨(H.out.grown HG3.out).c1, blk_kept HB2.out hg3⟩
      clear ho3 hg3
      refine hK _ _ (fun _ => HS3.out) ?_
      clear hK K
      refine wpAnyK_oneL (i := 7) (listed' := #[true, true, true, true, true, true, true, true, false, false, false, false]) (by kernel_rfl) rfl (by rfl) rfl ?_
      intro K hK
      go_simp
      have hg5 : w3.grownBy (w3.alloc (.cells #[.int .i64 m.s, .int .i64 m.d, .int .i64 m.k, .int .i64 m.q, .int .i64 m.a, .int .i64 m.b, .int .i64 m.c, .int .i64 m.e, dv3] 39)) none := gb_alloc _ _ _
      have hlit : RdG (w3.alloc (.cells #[.int .i64 m.s, .int .i64 m.d, .int .i64 m.k, .int .i64 m.q, .int .i64 m.a, .int .i64 m.b, .int .i64 m.c, .int .i64 m.e, dv3] 39)) (.slice (some ⟨w3.heap.size, 0, none⟩) 1 1) [(m, dv3)] := RdG.one (heap_at_alloc _ _)
      generalize w3.alloc (.cells #[.int .i64 m.s, .int .i64 m.d, .int .i64 m.k, .int .i64 m.q, .int .i64 m.a, .int .i64 m.b, .int .i64 m.c, .int .i64 m.e, dv3] 39) = w5 at *
      have HG5 := Lib.hid hg5
      have HL5 := Lib.hid hlit
      have HS5 : Hid (w5.cell? ⟨g, 1, none⟩ = some (.slice av ps.length cv) ∧ w5.heap[w.heap.size]? = some (.cells #[.int .i64 m.s, .int .i64 m.d, .int .i64 m.k, .int .i64 m.q, .int .i64 m.a, .int .i64 m.b, .int .i64 m.c, .int .i64 m.e, .slice a m.z.length c] 39 (0, 0))) := Lib.hid ⟨(H.out.grown (gb_same HG3.out hg5)).c1, blk_kept HS3.out.2 hg5⟩
      clear hg5 hlit
      refine hK _ _ (fun _ => HS5.out) ?_
      clear hK K
      refine wpAnyK_oneL (i := 8) (listed' := #[true, true, true, true, true, true, true, true, true, false, false, false]) (by kernel_rfl) rfl (by rfl) rfl ?_
      intro K hK
      refine msg_app_op _ _ rfl B (.slice av ps.length cv) (.slice (some ⟨w3.heap.size, 0, none⟩) 1 1) ps [(m, dv3)] rfl rfl (H.out.grown (gb_same HG3.out HG5.out)).row HL5.out (by simp; exact HO3.out.one) (by simp; omega) (by have := HG3.out.size; have := HG5.out.size; omega) ?_
      intro v6 w6 h6 hg6 hf6
      have HPU := Lib.hid (H.out.push HPN.out HG3.out HO3.out HG5.out hg6 h6 hf6)
      have HS6 : Hid (w6.cell? ⟨g, 1, none⟩ = some (.slice av ps.length cv) ∧ w6.heap[w.heap.size]? = some (.cells #[.int .i64 m.s, .int .i64 m.d, .int .i64 m.k, .int .i64 m.q, .int .i64 m.a, .int .i64 m.b, .int .i64 m.c, .int .i64 m.e, .slice a m.z.length c] 39 (0, 0))) := Lib.hid ⟨cell_row (blk_kept' (H.out.grown (gb_same HG3.out HG5.out)).blk hg6 H.out.ne), blk_kept' HS5.out.2 hg6 (fun e => by have := (H.out.row.lt _ e).2; omega)⟩
      have hfz : w6.frozen? ⟨g, 1, none⟩ = false := blk_frozen (blk_kept' (H.out.grown (gb_same HG3.out HG5.out)).blk hg6 H.out.ne)
      obtain ⟨a6, c6, e6, _, _⟩ := h6.slice
      rw [show (ps ++ [(m, dv3)]).length = ps.length + 1 by simp] at e6
      subst e6
      clear h6 hg6 hf6
      refine hK _ _ (fun _ => HS6.out) ?_
      clear hK K
      refine wpAnyK_takeL (i := 9) (d := 32) (v := ?_) (T' := ?_) (listed' := #[true, true, true, true, true, true, true, true, true, true, false, false]) rfl rfl (by kernel_rfl) (fun _ _ _ h => h) rfl (Or.inl ⟨by rfl, ?_⟩) ?_ HS6.out ?_
      rotate_left 2
      · intro w hS; clear hS; go_simp; rfl
      · simp only [List.setIfInBounds_toArray, List.set_cons_succ, List.set_cons_zero]; rfl
      refine wpAnyK_takeL (i := 10) (d := 33) (v := ?_) (T' := ?_) (listed' := #[true, true, true, true, true, true, true, true, true, true, true, false]) rfl rfl (by kernel_rfl) (fun _ _ _ h => h) rfl (Or.inl ⟨by rfl, ?_⟩) ?_ HS6.out ?_
      rotate_left 2
      · intro w hS; clear hS; go_simp; rfl
      · simp only [List.setIfInBounds_toArray, List.set_cons_succ, List.set_cons_zero]; rfl
      refine wpAnyK_oneL (i := 11) (listed' := #[true, true, true, true, true, true, true, true, true, true, true, true]) (by kernel_rfl) rfl (by rfl) rfl ?_
      intro K hK
      have hcs := HS6.out.1
      go_simp
      refine hK _ _ (fun h => Bool.noConfusion (show true = false from h)) ?_
      clear hK K
      refine wpAnyK_done (by kernel_rfl) ?_ _
      go_wp2
      go_ret
      exact ⟨rfl, .inr ⟨trivial, _, _, HPU.out⟩⟩
end Go.Proofs.Ytfldooljmjeaoaa
