/-
  The reference's message queues: a Put that is refused, Drop: the walks.
-/
import Derived.Test.YtfldooljmjeaoaaMGb
import Derived.Test.YtfldooljmjeaoaaRDf
import Derived.Deep.CutBlock
namespace Go.Proofs.Ytfldooljmjeaoaa
open Go.RowKit Go.Shelf

structure DP (w X : World) (n : Nat) (u v : Value) : Prop where
  a : X.heap[w.heap.size]? = some (.cells #[.int .i64 (n : Int), u] 32 (0, 0))
  r : X.heap[w.heap.size + 1]? = some (.cells #[.int .i64 0, .slice none 0 0] 32 (0, 0))
  c : X.heap[w.heap.size + 2]? = some (.cells #[.int .i64 (n : Int), v] 32 (0, 0))
  g : w.grownBy X none
theorem DP.kept {w X Y : World} {n : Nat} {u v : Value} {row : Option Nat} (h : DP w X n u v) (hg : X.grownBy Y row) (hr : ∀ k, row = some k → w.heap.size + 3 ≤ k) : DP w Y n u v :=
  ⟨blk_kept' h.a hg (fun e => by have := hr _ e; omega), blk_kept' h.r hg (fun e => by have := hr _ e; omega), blk_kept' h.c hg (fun e => by have := hr _ e; omega), gb_trans h.g hg (fun j e => .inr (by have := hr j e; omega))⟩
theorem DP.grown {w X Y : World} {n : Nat} {u v : Value} (h : DP w X n u v) (hg : X.grownBy Y none) : DP w Y n u v := h.kept hg (fun k e => by cases e)
theorem DP.lt {w X : World} {n : Nat} {u v : Value} (h : DP w X n u v) : w.heap.size + 3 ≤ X.heap.size := by have := lt_of_blk h.c; omega
theorem DP.set {w X : World} {n : Nat} {u v v' : Value} (h : DP w X n u v) : DP w (X.setCell ⟨w.heap.size + 2, 1, none⟩ v') n u v' := by
  refine ⟨blk_kept' h.a (gb_setCell _ _ _) (by simp), blk_kept' h.r (gb_setCell _ _ _) (by simp), ?_, gb_trans h.g (gb_setCell _ _ _) (fun j e => .inr (by simp at e; omega))⟩
  rw [blk_set h.c]; simp
def RDropM (n : Nat) (ps : List GP) (x : Int) (w : World) (e : Ending) (w' : World) : Prop := ∃ u, e = .returned (.tuple #[rM n u, .int .i64 ((ps.length - (keepM ps x).length : Nat) : Int)]) ∧ GRow w' w.heap.size u (keepM ps x) ∧ w.grownBy w' none
set_option maxRecDepth 100000 in
set_option maxHeartbeats 4000000 in
theorem rdropM_any (n : Nat) (u : Value) (ps : List GP) (x : Int) (w : World) (hu : RdG w u ps) (h1 : ∀ q ∈ ps, q.2.oneCell' = true) (hub : ∀ k, u.ownBlock = some k → k < w.heap.size) (hps : ps.length ≤ 200) : Calls Try.prog 17 #[rM n u, .int .i64 x] w (RDropM n ps x w) := by
  obtain ⟨a, c, rfl, _, _⟩ := hu.len
  have hsm : (ps.length : Int) ≤ 200 := by omega
  have HU := Lib.hid hu
  have H1 := Lib.hid h1
  have HUB := Lib.hid hub
  have HPS := Lib.hid hps
  have hb0 := heap_alloc2_0 w (.cells #[.int .i64 (n : Int), .slice a ps.length c] 32) (.cells #[.int .i64 0, .slice none 0 0] 32)
  have hb1 := heap_alloc2_1 w (.cells #[.int .i64 (n : Int), .slice a ps.length c] 32) (.cells #[.int .i64 0, .slice none 0 0] 32)
  have hga : w.grownBy ((w.alloc (.cells #[.int .i64 (n : Int), .slice a ps.length c] 32)).alloc (.cells #[.int .i64 0, .slice none 0 0] 32)) none := gb_same (gb_alloc _ _ _) (gb_alloc _ _ _)
  have hsz : ((w.alloc (.cells #[.int .i64 (n : Int), .slice a ps.length c] 32)).alloc (.cells #[.int .i64 0, .slice none 0 0] 32)).heap.size = w.heap.size + 2 := by simp
  have t0 := (row2 hb0).1
  unfold rM
  have HB0 := Lib.hid hb0
  have HB1 := Lib.hid hb1
  have HGA := Lib.hid hga
  have HSZ := Lib.hid hsz
  have hbz := heap_at_alloc ((w.alloc (.cells #[.int .i64 (n : Int), .slice a ps.length c] 32)).alloc (.cells #[.int .i64 0, .slice none 0 0] 32)) (.cells #[.int .i64 0, .slice none 0 0] 32)
  rw [hsz] at hbz
  have HBZ := Lib.hid hbz
  have HGZ := Lib.hid (gb_alloc ((w.alloc (.cells #[.int .i64 (n : Int), .slice a ps.length c] 32)).alloc (.cells #[.int .i64 0, .slice none 0 0] 32)) (.cells #[.int .i64 0, .slice none 0 0] 32) none)
  clear hu h1 hub hps hb0 hb1 hga hsz hbz
  go_enter Try.func17, Try.ntmps17
  go_upto_block 0 with ((with_reducible refine is_store 32 6 10 ?_); go_must (refine st_row 32 6 10 (w.heap.size + 2) _ #[.int .i64 (n : Int), .slice none 0 0] _ rfl rfl HBZ.out refqsize rfl rfl ?_; intro w2 hb2 hg2; have HB2 := Lib.hid hb2; have HG2 := Lib.hid hg2; clear hb2 hg2))
  have HD2 : Hid (DP w w2 n (.slice a ps.length c) (.slice none 0 0)) := Lib.hid ⟨blk_kept' (blk_kept HB0.out HGZ.out) HG2.out (by simp), blk_kept' (blk_kept HB1.out HGZ.out) HG2.out (by simp), HB2.out, gb_new (gb_same HGA.out HGZ.out) HG2.out (by omega)⟩
  clear t0
  go_wp2_with fail
  go_loopw [7] (fun i wr => ∃ (k : Nat) (v : Value), k ≤ ps.length ∧ i = .int .i64 k ∧ Hid (DP w wr n (.slice a ps.length c) v) ∧ Hid (GRow wr (w.heap.size + 3) v (keepM (ps.take k) x))) (fun i _ => ps.length - (intOf i).toNat)
  case atStart => exact ⟨0, _, Nat.zero_le _, rfl, HD2, Lib.hid (GRow.nil _ _)⟩
  case round =>
    obtain ⟨k, v, hk, rfl, HD, HR⟩ := hrel
    have t1 := (row2 HD.out.a).2
    by_cases hlt : k < ps.length
    · obtain ⟨p, hp⟩ : ∃ p, ps[k]? = some p := ⟨ps[k], by simp [hlt]⟩
      obtain ⟨b, off, rfl, n0, _⟩ := (HU.out.grown HD.out.g).at9 hp
      have HP := Lib.hid hp
      have HKT := Lib.hid (keepM_take x hp)
      have HPM := Lib.hid (List.mem_of_getElem? hp)
      clear hp
      by_cases hx : p.1.s = x
      · have hb : (p.1.s == x) = true := by rw [beq_iff_eq]; exact hx
        have hb2 : decide (p.1.s = x) = true := by simpa using hx
        have HX := Lib.hid hx
        have HR2 : Hid (GRow wr (w.heap.size + 3) v (keepM (ps.take (k + 1)) x)) := Lib.hid (by rw [HKT.out, if_pos HX.out, List.append_nil]; exact HR.out)
        clear hx
        go_wp2
        go_roundw
        case rel => exact ⟨k + 1, v, by omega, by go_num, HD, HR2⟩
        case measure => simp [intOf]; omega
      · have hb : (p.1.s == x) = false := by rw [beq_eq_false_iff_ne]; exact hx
        have hb2 : decide (p.1.s = x) = false := by simpa using hx
        have HX : Hid (p.1.s ≠ x) := Lib.hid hx
        clear hx
        go_wp2
        obtain ⟨av, cv, rfl, _, _⟩ := HR.out.slice
        have HKL : Hid ((keepM (ps.take k) x).length ≤ 200) := Lib.hid (by have h1 : (keepM (ps.take k) x).length ≤ (ps.take k).length := List.length_filter_le _ _; rw [List.length_take] at h1; have := HPS.out; omega)
        generalize hkl : (keepM (ps.take k) x).length = kl at *
        have HKE := Lib.hid hkl
        clear t1 n0 hkl
        refine region_KL (fuel := 11) (listed := #[false, false, false, false, false, false, false, false, false, false, false]) (fun X => X.cell? ⟨w.heap.size + 2, 1, none⟩ = some (.slice av kl cv) ∧ X.cell? ⟨w.heap.size, 1, none⟩ = some (.slice (some ⟨b, off, none⟩) ps.length c) ∧ RdG X (.slice (some ⟨b, off, none⟩) ps.length c) ps) 10 (by kernel_rfl) rfl (by kernel_rfl) ?_
        have HD1 := Lib.hid (HD.out.grown (gb_drew wr none))
        have HR1 := Lib.hid (HR.out.grown (gb_drew wr none))
        generalize wr.drew = x1 at *
        have S1 := Lib.hid (show x1.cell? ⟨w.heap.size + 2, 1, none⟩ = some (.slice av kl cv) ∧ x1.cell? ⟨w.heap.size, 1, none⟩ = some (.slice (some ⟨b, off, none⟩) ps.length c) ∧ RdG x1 (.slice (some ⟨b, off, none⟩) ps.length c) ps from ⟨(row2 HD1.out.c).2, (row2 HD1.out.a).2, HU.out.grown HD1.out.g⟩)
        refine wpAnyK_takeL (i := 0) (d := 26) (v := ?_) (T' := ?_) (listed' := #[true, false, false, false, false, false, false, false, false, false, false]) rfl rfl (by kernel_rfl) (fun _ _ _ h => h) rfl (Or.inl ⟨by rfl, ?_⟩) ?_ S1.out ?_
        rotate_left 2
        · intro w hS; clear hS; go_simp; rfl
        · simp only [List.setIfInBounds_toArray, List.set_cons_succ, List.set_cons_zero]; rfl
        refine wpAnyK_takeL (i := 1) (d := 27) (v := ?_) (T' := ?_) (listed' := #[true, true, false, false, false, false, false, false, false, false, false]) rfl rfl (by kernel_rfl) (fun _ _ _ h => h) rfl (Or.inl ⟨by rfl, ?_⟩) ?_ S1.out ?_
        rotate_left 2
        · intro w hS; have t0 := hS.1; clear hS; go_simp; rfl
        · simp only [List.setIfInBounds_toArray, List.set_cons_succ, List.set_cons_zero]; rfl
        refine wpAnyK_takeL (i := 2) (d := 28) (v := ?_) (T' := ?_) (listed' := #[true, true, true, false, false, false, false, false, false, false, false]) rfl rfl (by kernel_rfl) (fun _ _ _ h => h) rfl (Or.inl ⟨by rfl, ?_⟩) ?_ S1.out ?_
        rotate_left 2
        · intro w hS; clear hS; go_simp; rfl
        · simp only [List.setIfInBounds_toArray, List.set_cons_succ, List.set_cons_zero]; rfl
        refine wpAnyK_takeL (i := 3) (d := 29) (v := ?_) (T' := ?_) (listed' := #[true, true, true, true, false, false, false, false, false, false, false]) rfl rfl (by kernel_rfl) (fun _ _ _ h => h) rfl (Or.inl ⟨by rfl, ?_⟩) ?_ S1.out ?_
        rotate_left 2
        · intro w hS; have t0 := hS.2.1; clear hS; go_simp; rfl
        · simp only [List.setIfInBounds_toArray, List.set_cons_succ, List.set_cons_zero]; rfl
        refine wpAnyK_takeL (i := 4) (d := 30) (v := ?_) (T' := ?_) (listed' := #[true, true, true, true, true, false, false, false, false, false, false]) rfl rfl (by kernel_rfl) (fun _ _ _ h => h) rfl (Or.inl ⟨by rfl, ?_⟩) ?_ S1.out ?_
        rotate_left 2
        · intro w hS; clear hS; go_simp; rfl
        · simp only [List.setIfInBounds_toArray, List.set_cons_succ, List.set_cons_zero]; rfl
        refine wpAnyK_takeL (i := 5) (d := 31) (v := ?_) (T' := ?_) (listed' := #[true, true, true, true, true, true, false, false, false, false, false]) rfl rfl (by kernel_rfl) (fun _ _ _ h => h) rfl (Or.inl ⟨by rfl, ?_⟩) ?_ S1.out ?_
        rotate_left 2
        · intro w hS; clear hS; go_simp; rfl
        · simp only [List.setIfInBounds_toArray, List.set_cons_succ, List.set_cons_zero]; rfl
        refine wpAnyK_takeL (i := 6) (d := 32) (v := ?_) (T' := ?_) (listed' := #[true, true, true, true, true, true, true, false, false, false, false]) rfl rfl (by kernel_rfl) (fun _ _ _ h => h) rfl (Or.inl ⟨by rfl, ?_⟩) ?_ S1.out ?_
        rotate_left 2
        · intro w hS; obtain ⟨_, _, hb9, n0, n1, n2, n3, n4, n5, n6, n7, n8⟩ := hS.2.2.at9 HP.out; cases hb9; clear hS; go_simp; rfl
        · simp only [List.setIfInBounds_toArray, List.set_cons_succ, List.set_cons_zero]; rfl
        refine wpAnyK_oneL (i := 7) (listed' := #[true, true, true, true, true, true, true, true, false, false, false]) (by kernel_rfl) rfl (by rfl) rfl ?_
        intro K hK
        go_simp
        have hgr := gb_alloc x1 (.cells #[.int .i64 p.1.s, .int .i64 p.1.d, .int .i64 p.1.k, .int .i64 p.1.q, .int .i64 p.1.a, .int .i64 p.1.b, .int .i64 p.1.c, .int .i64 p.1.e, p.2] 39) none
        have hlit : RdG (x1.alloc (.cells #[.int .i64 p.1.s, .int .i64 p.1.d, .int .i64 p.1.k, .int .i64 p.1.q, .int .i64 p.1.a, .int .i64 p.1.b, .int .i64 p.1.c, .int .i64 p.1.e, p.2] 39)) (.slice (some ⟨x1.heap.size, 0, none⟩) 1 1) [(p.1, p.2)] := RdG.one (heap_at_alloc _ _)
        generalize x1.alloc (.cells #[.int .i64 p.1.s, .int .i64 p.1.d, .int .i64 p.1.k, .int .i64 p.1.q, .int .i64 p.1.a, .int .i64 p.1.b, .int .i64 p.1.c, .int .i64 p.1.e, p.2] 39) = x2 at *
        have HL2 := Lib.hid hlit
        have HD2' := Lib.hid (HD1.out.grown hgr)
        have HR2 := Lib.hid (HR1.out.grown hgr)
        have S2 := Lib.hid (show x2.cell? ⟨w.heap.size + 2, 1, none⟩ = some (.slice av kl cv) ∧ x2.cell? ⟨w.heap.size, 1, none⟩ = some (.slice (some ⟨b, off, none⟩) ps.length c) ∧ RdG x2 (.slice (some ⟨b, off, none⟩) ps.length c) ps from ⟨(row2 HD2'.out.c).2, (row2 HD2'.out.a).2, HU.out.grown HD2'.out.g⟩)
        clear hgr hlit
        refine hK _ _ (fun _ => S2.out) ?_
        clear hK K
        refine wpAnyK_oneL (i := 8) (listed' := #[true, true, true, true, true, true, true, true, true, false, false]) (by kernel_rfl) rfl (by rfl) rfl ?_
        intro K hK
        refine msg_app_op _ _ rfl (w.heap.size + 3) (.slice av kl cv) (.slice (some ⟨x1.heap.size, 0, none⟩) 1 1) (keepM (ps.take k) x) [(p.1, p.2)] rfl rfl HR2.out HL2.out (by simp; exact H1.out p HPM.out) (by have := HKL.out; have := HKE.out; simp; omega) HD2'.out.lt ?_
        intro v3 x3 h3 hg3 hf3
        have hvl := fun j hj => (HR2.out.lt j hj).1
        have HD3 := Lib.hid (HD2'.out.kept hg3 (fun j e => hvl j e))
        have S3 := Lib.hid (show x3.cell? ⟨w.heap.size + 2, 1, none⟩ = some (.slice av kl cv) ∧ x3.cell? ⟨w.heap.size, 1, none⟩ = some (.slice (some ⟨b, off, none⟩) ps.length c) ∧ RdG x3 (.slice (some ⟨b, off, none⟩) ps.length c) ps from ⟨(row2 HD3.out.c).2, (row2 HD3.out.a).2, HU.out.grown HD3.out.g⟩)
        have HR3 := Lib.hid h3
        clear h3 hg3 hf3 hvl
        refine hK _ _ (fun _ => S3.out) ?_
        clear hK K
        refine wpAnyK_takeL (i := 9) (d := 35) (v := ?_) (T' := ?_) (listed' := #[true, true, true, true, true, true, true, true, true, true, false]) rfl rfl (by kernel_rfl) (fun _ _ _ h => h) rfl (Or.inl ⟨by rfl, ?_⟩) ?_ S3.out ?_
        rotate_left 2
        · intro w hS; clear hS; go_simp; rfl
        · simp only [List.setIfInBounds_toArray, List.set_cons_succ, List.set_cons_zero]; rfl
        refine wpAnyK_oneL (i := 10) (listed' := #[true, true, true, true, true, true, true, true, true, true, true]) (by kernel_rfl) rfl (by rfl) rfl ?_
        intro K hK
        have hcs := S3.out.1
        have hfz := blk_frozen (j := 1) HD3.out.c
        obtain ⟨a4, c4, hv4, _, _⟩ := HR3.out.slice
        generalize (keepM (ps.take k) x ++ [(p.1, p.2)]).length = L4 at hv4
        subst hv4
        have HD4 := Lib.hid (HD3.out.set (v' := .slice a4 L4 c4))
        have HR4 : Hid (GRow (x3.setCell ⟨w.heap.size + 2, 1, none⟩ (.slice a4 L4 c4)) (w.heap.size + 3) (.slice a4 L4 c4) (keepM (ps.take (k + 1)) x)) := Lib.hid (by rw [HKT.out, if_neg HX.out]; exact HR3.out.kept (gb_setCell _ _ _) (fun j hj e => by have := (HR3.out.lt j hj).1; simp at e; omega))
        go_simp
        refine hK _ _ (fun h => Bool.noConfusion (show true = false from h)) ?_
        clear hK K
        refine wpAnyK_done (by kernel_rfl) ?_ _
        go_wp2
        go_roundw
        case rel => exact ⟨k + 1, _, by omega, by go_num, HD4, HR4⟩
        case measure => simp [intOf]; omega
    · obtain rfl : k = ps.length := by omega
      have htk : ps.take ps.length = ps := List.take_of_length_le (Nat.le_refl _)
      rw [htk] at HR
      obtain ⟨av, cv, rfl, _, _⟩ := HR.out.slice
      have hkn : ((keepM ps x).length : Int) ≤ (ps.length : Int) := by
        have h1 : (keepM ps x).length ≤ ps.length := List.length_filter_le _ _
        omega
      have hw : IntKind.i64.wrap ((ps.length : Int) - ((keepM ps x).length : Int)) = ((ps.length - (keepM ps x).length : Nat) : Int) := by rw [IntKind.wrap_i64] <;> omega
      obtain ⟨kl, hkl⟩ : ∃ kl, (keepM ps x).length = kl := ⟨_, rfl⟩
      rw [hkl] at HD HR hkn hw
      have HKE := Lib.hid hkl
      clear hlt htk hkl
      go_wp2
      clear t1
      refine region_KL (fuel := 10) (listed := #[false, false, false, false, false, false, false, false, false, false]) (fun X => X.heap[w.heap.size + 2]? = some (.cells #[.int .i64 (n : Int), .slice av kl cv] 32 (0, 0)) ∧ X.cell? ⟨w.heap.size, 1, none⟩ = some (.slice a ps.length c)) 9 (by kernel_rfl) rfl (by kernel_rfl) ?_
      have HD1 := Lib.hid (HD.out.grown (gb_drew wr none))
      have HR1 := Lib.hid (HR.out.grown (gb_drew wr none))
      generalize wr.drew = x1 at *
      have S1 := Lib.hid (show x1.heap[w.heap.size + 2]? = some (.cells #[.int .i64 (n : Int), .slice av kl cv] 32 (0, 0)) ∧ x1.cell? ⟨w.heap.size, 1, none⟩ = some (.slice a ps.length c) from ⟨HD1.out.c, (row2 HD1.out.a).2⟩)
      refine wpAnyK_takeL (i := 0) (d := 36) (v := ?_) (T' := ?_) (listed' := #[true, false, false, false, false, false, false, false, false, false]) rfl rfl (by kernel_rfl) (fun _ _ _ h => h) rfl (Or.inl ⟨by rfl, ?_⟩) ?_ S1.out ?_
      rotate_left 2
      · intro w hS; have t0 := (row2 hS.1).1; have t1 := (row2 hS.1).2; clear hS; go_simp; rfl
      · simp only [List.setIfInBounds_toArray, List.set_cons_succ, List.set_cons_zero]; rfl
      refine wpAnyK_takeL (i := 1) (d := 37) (v := ?_) (T' := ?_) (listed' := #[true, true, false, false, false, false, false, false, false, false]) rfl rfl (by kernel_rfl) (fun _ _ _ h => h) rfl (Or.inl ⟨by rfl, ?_⟩) ?_ S1.out ?_
      rotate_left 2
      · intro w hS; clear hS; go_simp; rfl
      · simp only [List.setIfInBounds_toArray, List.set_cons_succ, List.set_cons_zero]; rfl
      refine wpAnyK_takeL (i := 2) (d := 38) (v := ?_) (T' := ?_) (listed' := #[true, true, true, false, false, false, false, false, false, false]) rfl rfl (by kernel_rfl) (fun _ _ _ h => h) rfl (Or.inl ⟨by rfl, ?_⟩) ?_ S1.out ?_
      rotate_left 2
      · intro w hS; have t0 := hS.2; clear hS; go_simp; rfl
      · simp only [List.setIfInBounds_toArray, List.set_cons_succ, List.set_cons_zero]; rfl
      refine wpAnyK_takeL (i := 3) (d := 39) (v := ?_) (T' := ?_) (listed' := #[true, true, true, true, false, false, false, false, false, false]) rfl rfl (by kernel_rfl) (fun _ _ _ h => h) rfl (Or.inl ⟨by rfl, ?_⟩) ?_ S1.out ?_
      rotate_left 2
      · intro w hS; clear hS; go_simp; rfl
      · simp only [List.setIfInBounds_toArray, List.set_cons_succ, List.set_cons_zero]; rfl
      refine wpAnyK_takeL (i := 4) (d := 40) (v := ?_) (T' := ?_) (listed' := #[true, true, true, true, true, false, false, false, false, false]) rfl rfl (by kernel_rfl) (fun _ _ _ h => h) rfl (Or.inl ⟨by rfl, ?_⟩) ?_ S1.out ?_
      rotate_left 2
      · intro w hS; clear hS; go_simp; rfl
      · simp only [List.setIfInBounds_toArray, List.set_cons_succ, List.set_cons_zero]; rfl
      refine wpAnyK_takeL (i := 5) (d := 41) (v := ?_) (T' := ?_) (listed' := #[true, true, true, true, true, true, false, false, false, false]) rfl rfl (by kernel_rfl) (fun _ _ _ h => h) rfl (Or.inl ⟨by rfl, ?_⟩) ?_ S1.out ?_
      rotate_left 2
      · intro w hS; have t0 := (row2 hS.1).1; have t1 := (row2 hS.1).2; clear hS; go_simp; rfl
      · simp only [List.setIfInBounds_toArray, List.set_cons_succ, List.set_cons_zero]; rfl
      refine wpAnyK_takeL (i := 6) (d := 42) (v := ?_) (T' := ?_) (listed' := #[true, true, true, true, true, true, true, false, false, false]) rfl rfl (by kernel_rfl) (fun _ _ _ h => h) rfl (Or.inl ⟨by rfl, ?_⟩) ?_ S1.out ?_
      rotate_left 2
      · intro w hS; clear hS; go_simp; rfl
      · simp only [List.setIfInBounds_toArray, List.set_cons_succ, List.set_cons_zero]; rfl
      refine wpAnyK_takeL (i := 7) (d := 43) (v := ?_) (T' := ?_) (listed' := #[true, true, true, true, true, true, true, true, false, false]) rfl rfl (by kernel_rfl) (fun _ _ _ h => h) rfl (Or.inl ⟨by rfl, ?_⟩) ?_ S1.out ?_
      rotate_left 2
      · intro w hS; clear hS; go_simp; rfl
      · simp only [List.setIfInBounds_toArray, List.set_cons_succ, List.set_cons_zero]; rfl
      refine wpAnyK_oneL (i := 8) (listed' := #[true, true, true, true, true, true, true, true, true, false]) (by kernel_rfl) rfl (by rfl) rfl ?_
      intro K hK
      refine st_row_op 32 4 36 rfl (w.heap.size + 1) #[.int .i64 0, .slice none 0 0] #[.int .i64 (n : Int), .slice av kl cv] 32 rfl rfl HD1.out.r refqsize rfl rfl ?_
      intro y9 hb9 hg9
      have HB9 := Lib.hid hb9
      have V9 := Lib.hid (HR1.out.kept hg9 (fun j hj e => by have := (HR1.out.lt j hj).1; simp at e; omega))
      have G9 := Lib.hid (gb_new HD1.out.g hg9 (by omega))
      have S9 := Lib.hid (show y9.heap[w.heap.size + 2]? = some (.cells #[.int .i64 (n : Int), .slice av kl cv] 32 (0, 0)) ∧ y9.cell? ⟨w.heap.size, 1, none⟩ = some (.slice a ps.length c) from ⟨blk_kept' HD1.out.c hg9 (by simp), (row2 (blk_kept' HD1.out.a hg9 (by simp))).2⟩)
      clear hb9 hg9
      refine hK _ _ (fun _ => S9.out) ?_
      clear hK K
      refine wpAnyK_oneL (i := 9) (listed' := #[true, true, true, true, true, true, true, true, true, true]) (by kernel_rfl) rfl (by rfl) rfl ?_
      intro K hK
      go_simp
      refine hK _ _ (fun h => Bool.noConfusion (show true = false from h)) ?_
      clear hK K
      refine wpAnyK_done (by kernel_rfl) ?_ _
      go_wp2
      refine ret_cb rfl (w.heap.size + 1) 32 #[.int .i64 (n : Int), .slice av kl cv] (.int .i64 ((ps.length - kl : Nat) : Int)) rfl rfl HB9.out Try.underlying32 refqsize ?_
      unfold RDropM
      rw [HKE.out]
      obtain ⟨g1, g2⟩ := V9.out
      refine ⟨_, rfl, ⟨g1, ?_⟩, G9.out⟩
      rcases g2 with g3 | ⟨b', cap, cur, e1, hB, rest⟩
      · exact .inl g3
      · exact .inr ⟨b', cap, cur, e1, by omega, rest⟩
end Go.Proofs.Ytfldooljmjeaoaa
