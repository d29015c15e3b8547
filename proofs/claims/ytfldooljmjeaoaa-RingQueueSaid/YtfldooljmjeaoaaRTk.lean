/-
  First and Take of a queue of messages: the walks.
-/
import Derived.Test.YtfldooljmjeaoaaRDl
import Derived.Test.YtfldooljmjeaoaaRNil
import Derived.Deep.CutBlock
namespace Go.Proofs.Ytfldooljmjeaoaa
open Go.RowKit Go.Shelf

theorem GRow.at9 {w : World} {B : Nat} {a : Option Addr} {n c : Nat} {ps : List GP} (h : GRow w B (.slice a n c) ps) {i : Nat} {p : GP} (hi : ps[i]? = some p) :
    ∃ b, a = some ⟨b, 0, none⟩ ∧ B ≤ b ∧ w.cell? ⟨b, i * 9, none⟩ = some (.int .i64 p.1.s) ∧ w.cell? ⟨b, i * 9 + 1, none⟩ = some (.int .i64 p.1.d) ∧ w.cell? ⟨b, i * 9 + 2, none⟩ = some (.int .i64 p.1.k) ∧ w.cell? ⟨b, i * 9 + 3, none⟩ = some (.int .i64 p.1.q) ∧ w.cell? ⟨b, i * 9 + 4, none⟩ = some (.int .i64 p.1.a) ∧ w.cell? ⟨b, i * 9 + 5, none⟩ = some (.int .i64 p.1.b) ∧ w.cell? ⟨b, i * 9 + 6, none⟩ = some (.int .i64 p.1.c) ∧ w.cell? ⟨b, i * 9 + 7, none⟩ = some (.int .i64 p.1.e) ∧ w.cell? ⟨b, i * 9 + 8, none⟩ = some p.2 := by
  obtain ⟨b, h1, h2, h3⟩ := h.at hi
  exact ⟨b, h1, h2, h3 0 _ rfl, h3 1 _ rfl, h3 2 _ rfl, h3 3 _ rfl, h3 4 _ rfl, h3 5 _ rfl, h3 6 _ rfl, h3 7 _ rfl, h3 8 _ rfl⟩
set_option maxRecDepth 100000 in
theorem firstM_none {w : World} {B g n : Nat} {v : Value} (h : IsM w B g n v []) : Calls Try.prog 16 #[.pointer (some ⟨g, 0, none⟩)] w (ValG noMsg w) := by
  have HL := Lib.hid (lenM_any (h.grown (gb_alloc w (.cells zrowM 39) none)))
  unfold zrowM at HL
  clear h
  go_enter Try.func16, Try.ntmps16
  go_wp2_with (go_at_call 19; refine HL.out.mono ?_; rintro e w1 ⟨rfl, rfl⟩)
  refine ret_cb rfl w.heap.size 39 zrowM (.bool false) rfl rfl (heap_at_alloc _ _) Try.underlying39 msize ?_
  exact ⟨rfl, gb_alloc _ _ _⟩
def HasM (p : GP) (w : World) (e : Ending) (w' : World) : Prop := ∃ dv', e = .returned (.tuple #[.agg (p.1.row dv'), .bool true]) ∧ Own w' w.heap.size dv' p.1.z ∧ w.grownBy w' none
set_option maxRecDepth 100000 in
set_option maxHeartbeats 4000000 in
theorem firstM_any {w : World} {B g n : Nat} {v : Value} {p : GP} {qs : List GP} (h : IsM w B g n v (p :: qs)) (hz : p.1.z.length ≤ 1536) : Calls Try.prog 16 #[.pointer (some ⟨g, 0, none⟩)] w (HasM p w) := by
  have hq := h.grown (gb_alloc w (.cells zrowM 39) none)
  unfold zrowM at hq
  have HL := Lib.hid (lenM_any hq)
  have hd := hq.data p (by simp)
  obtain ⟨a, c, rfl, _, _⟩ := hq.row.slice
  obtain ⟨b, rfl, _, n0, n1, n2, n3, n4, n5, n6, n7, n8⟩ := hq.row.at9 (i := 0) rfl
  rw [Nat.zero_mul] at n0 n1 n2 n3 n4 n5 n6 n7 n8
  have h1 := hq.c1
  have HCL := Lib.hid (cloneM_any p.1 p.2 _ hd.w (by omega))
  unfold CloneM Mg.row at HCL
  have hb := heap_at_alloc w (.cells zrowM 39)
  unfold zrowM at hb
  have HB := Lib.hid hb
  have hcn := hq.cnt
  have hle := hq.le
  obtain ⟨m, hm⟩ : ∃ m, (p :: qs).length = m := ⟨_, rfl⟩
  have hm0 : 0 < m := by rw [← hm]; simp
  rw [hm] at HL h1
  have hmi : (0 : Int) < (m : Int) := by omega
  have hms : ¬ ((m : Int) = 0) := by omega
  have hms' : (m : Int) ≤ 200 := by omega
  have HG := Lib.hid (gb_alloc w (.cells zrowM 39) none)
  unfold zrowM at HG
  have HZ : Hid ((w.alloc (.cells zrowM 39)).heap.size = w.heap.size + 1) := Lib.hid (by simp)
  unfold zrowM at HZ
  clear h hq hd hb hm hm0 hcn hle hz
  go_enter Try.func16, Try.ntmps16
  go_wp2_with fail
  refine HL.out.mono ?_
  rintro e w1 ⟨rfl, rfl⟩
  go_wp2_with fail
  refine HCL.out.mono ?_
  rintro e w2 ⟨dv', rfl, ho2, hg2⟩
  obtain ⟨ad, cd, rfl⟩ := ho2.rd.len
  have HB2 := Lib.hid (blk_kept HB.out hg2)
  have HO2 := Lib.hid ho2
  have HG2 := Lib.hid (gb_same HG.out hg2)
  clear ho2 hg2
  go_wp2_with ((with_reducible refine is_store 39 2 14 ?_); go_must (refine st_row 39 2 14 w.heap.size _ (p.1.row (.slice ad p.1.z.length cd)) _ rfl rfl HB2.out msize rfl rfl ?_; intro w4 hb4 hg4))
  refine ret_cb rfl w.heap.size 39 (p.1.row (.slice ad p.1.z.length cd)) (.bool true) rfl rfl hb4 Try.underlying39 msize ?_
  refine ⟨_, rfl, ?_, gb_new HG2.out hg4 (Nat.le_refl _)⟩
  exact (HO2.out.kept hg4 (fun k hk e => by have h1 := (HO2.out.lt k hk).1; rw [HZ.out] at h1; simp at e; omega)).mono (by rw [HZ.out]; omega)
/-- the queue with fewer messages -/
theorem IsM.cut {w w3 : World} {B g n : Nat} {v v' : Value} {ps qs : List GP} (h : IsM w B g n v ps) (hg3 : w.grownBy w3 v.ownBlock) (h3 : GRow w3 B v' qs) (hb : v'.ownBlock = v.ownBlock) (hs : ∀ q ∈ qs, q ∈ ps) (hl : qs.length ≤ ps.length) :
    IsM (w3.setCell ⟨g, 1, none⟩ v') B g n v' qs ∧ KM w (w3.setCell ⟨g, 1, none⟩ v') g v := by
  have hcn := h.cnt
  have hblk : w3.heap[g]? = some (.cells #[.int .i64 (n : Int), v] 61 (0, 0)) := blk_kept' h.blk hg3 h.ne
  have hne : v'.ownBlock ≠ some g := by rw [hb]; exact h.ne
  refine ⟨⟨?_, ?_, ?_, hne, ?_, by omega, h.le⟩, (KM.of hg3 (.inr (.inr rfl))).trans (KM.of (v := v) (gb_setCell _ _ _) (.inr (.inl rfl))) (Fr.refl _ _)⟩
  · rw [blk_set hblk]; simp
  · exact h3.kept (gb_setCell _ _ _) (fun k hk e => hne (by simp at e; rw [hk, e]))
  · intro p hp
    have hpp := hs p hp
    by_cases hz : p.1.z = []
    · have h1 := h.data p hpp
      rw [hz] at h1 ⊢
      rcases h1 with h4 | ⟨b, off, cap, h4, h5, h7, h8⟩
      · exact .inl h4
      · exact .inr ⟨b, off, cap, h4, h5, h7, fun j x hj => by simp at hj⟩
    · have h1 := h.dne p hpp hz
      exact ((h.data p hpp).kept hg3 (fun k hk e => (h1 k hk).2 e)).kept (gb_setCell _ _ _) (fun k hk e => (h1 k hk).1 (by simp at e; exact e.symm))
  · intro p hp hz k hk
    rw [hb]
    exact h.dne p (hs p hp) hz k hk
theorem KM.more {w w1 w2 : World} {g : Nat} {v : Value} {row : Option Nat} (h : KM w w1 g v) (hg : w1.grownBy w2 row) (hr : ∀ r, row = some r → w.heap.size ≤ r) : KM w w2 g v := by
  obtain ⟨a1, a2, a3, a4, a5⟩ := h
  exact ⟨hg.os.trans a1, hg.tape.trans a2, hg.output.trans a3, Nat.le_trans a4 hg.size, fun k hk h1 h2 => (hg.block k (Nat.lt_of_lt_of_le hk a4) (fun e => by have := hr k e.symm; omega)).trans (a5 k hk h1 h2)⟩
def TookM (p : GP) (qs : List GP) (B g n : Nat) (v : Value) (w : World) (e : Ending) (w' : World) : Prop := ∃ dv' v', e = .returned (.tuple #[.agg (p.1.row dv'), .bool true]) ∧ Own w' w.heap.size dv' p.1.z ∧ IsM w' B g n v' qs ∧ KM w w' g v ∧ v'.ownBlock = v.ownBlock
set_option maxRecDepth 100000 in
theorem takeM_none {w : World} {B g n : Nat} {v : Value} (h : IsM w B g n v []) : Calls Try.prog 13 #[.pointer (some ⟨g, 0, none⟩)] w (ValG noMsg w) := by
  have HF := Lib.hid (firstM_none (h.grown (gb_alloc w (.cells zrowM 39) none)))
  unfold ValG noMsg zrowM at HF
  clear h
  go_enter Try.func13, Try.ntmps13
  go_wp2_with fail
  refine HF.out.mono ?_
  rintro e w1 ⟨rfl, hg1⟩
  have HB1 := Lib.hid (blk_kept (heap_at_alloc w _) hg1)
  have HG1 := Lib.hid (gb_same (gb_alloc w _ none) hg1)
  clear hg1
  have HBX := Lib.hid (blk_kept HB1.out (gb_alloc w1 (.cells zrowM 39) none))
  unfold zrowM at HBX
  go_wp2_with ((with_reducible refine is_store 39 2 20 ?_); go_must (refine st_row 39 2 20 w.heap.size _ zrowM _ rfl rfl HBX.out msize rfl rfl ?_; intro w4 hb4 hg4))
  refine ret_cb rfl w.heap.size 39 zrowM (.bool false) rfl rfl hb4 Try.underlying39 msize ?_
  exact ⟨rfl, gb_new (gb_same HG1.out (gb_alloc _ _ _)) hg4 (Nat.le_refl _)⟩
set_option maxRecDepth 100000 in
set_option maxHeartbeats 4000000 in
theorem takeM_any {w : World} {B g n : Nat} {v : Value} {p : GP} {qs : List GP} (h : IsM w B g n v (p :: qs)) (hz : p.1.z.length ≤ 1536) : Calls Try.prog 13 #[.pointer (some ⟨g, 0, none⟩)] w (TookM p qs B g n v w) := by
  have HF := Lib.hid (firstM_any (h.grown (gb_alloc w (.cells zrowM 39) none)) hz)
  have HZ : Hid ((w.alloc (.cells zrowM 39)).heap.size = w.heap.size + 1) := Lib.hid (by simp)
  unfold zrowM at HZ
  unfold HasM Mg.row zrowM at HF
  have H := Lib.hid h
  have hgl := h.lt
  clear h hz
  go_enter Try.func13, Try.ntmps13
  go_wp2_with fail
  refine HF.out.mono ?_
  rintro e w1 ⟨dv', rfl, ho1, hg1⟩
  obtain ⟨ad, cd, rfl⟩ := ho1.rd.len
  have HB1 := Lib.hid (blk_kept (heap_at_alloc w _) hg1)
  have HG1 := Lib.hid (gb_same (gb_alloc w _ none) hg1)
  have HO1 := Lib.hid ho1
  clear ho1 hg1
  have HBX := Lib.hid (blk_kept HB1.out (gb_alloc w1 (.cells zrowM 39) none))
  unfold zrowM at HBX
  have HZB := Lib.hid (heap_at_alloc w1 (.cells zrowM 39))
  have HGX := Lib.hid (gb_alloc w1 (.cells zrowM 39) none)
  unfold zrowM at HZB HGX
  have HX1 : Hid (w.heap.size < w1.heap.size) := Lib.hid (lt_of_blk HB1.out)
  go_upto_if 11 with ((with_reducible refine is_store 39 4 9 ?_); go_must (refine st_row 39 4 9 w1.heap.size _ (p.1.row (.slice ad p.1.z.length cd)) _ rfl rfl HZB.out msize rfl rfl ?_; intro w2 hb2 hg2; have HB2 := Lib.hid hb2; have HG2 := Lib.hid hg2; clear hb2 hg2))
  have HGW2 := Lib.hid (gb_new (gb_same HG1.out HGX.out) HG2.out HG1.out.size)
  have hm2 := H.out.grown HGW2.out
  have HBR2 := Lib.hid (blk_kept' HBX.out HG2.out (by have := HX1.out; simp; omega))
  have HO2 := Lib.hid ((HO1.out.grown HGX.out).kept HG2.out (fun k hk e => by have := (HO1.out.lt k hk).2; simp at e; omega))
  have HDE := Lib.hid (delete1_any v B p qs w2 hm2.row (fun q hq => (hm2.data q (by simp [hq])).one))
  have HVL : Hid (∀ k, v.ownBlock = some k → k < w.heap.size) := Lib.hid (fun k hk => (H.out.row.lt k hk).2)
  have hc1 := hm2.c1
  have hblk2 := hm2.blk
  obtain ⟨a, c, hv, _, _⟩ := hm2.row.slice
  have HM2 := Lib.hid hm2
  generalize (p :: qs).length = m at hv
  subst hv
  clear hm2
  go_wp2_with fail
  refine HDE.out.mono ?_
  rintro e w3 ⟨v3, rfl, hr3, hg3, hb3⟩
  obtain ⟨a3, c3, rfl, _, _⟩ := hr3.slice
  have HC := Lib.hid (HM2.out.cut hg3 hr3 hb3 (fun q hq => by simp [hq]) (by simp))
  have hvg := HM2.out.ne
  have hblk3 := blk_kept' hblk2 hg3 hvg
  have hcc := (cell_row (j := 1) hblk3)
  have hfz := blk_frozen (j := 1) hblk3
  have hgs := gb_setCell w3 ⟨g, 1, none⟩ (.slice a3 qs.length c3)
  have hne1 : (Value.slice a m c).ownBlock ≠ some w1.heap.size := fun e => by have := HVL.out _ e; have := HG1.out.size; omega
  have hne2 : (Value.slice a m c).ownBlock ≠ some w.heap.size := fun e => by have := HVL.out _ e; omega
  have HB4 := Lib.hid (blk_kept' (blk_kept' HB2.out hg3 hne1) hgs (by have := HX1.out; simp; omega))
  have HBR4 := Lib.hid (blk_kept' (blk_kept' HBR2.out hg3 hne2) hgs (by simp; omega))
  have HO4 := Lib.hid ((HO2.out.kept hg3 (fun k hk e => by have h1 := (HO1.out.lt k hk).1; have h2 := HVL.out k e; rw [HZ.out] at h1; omega)).kept hgs (fun k hk e => by have h1 := (HO1.out.lt k hk).1; rw [HZ.out] at h1; simp at e; omega))
  have HB3E := Lib.hid hb3
  clear hr3 hg3 hblk3 hblk2 hgs hne1 hne2 hvg hb3 hc1
  go_wp2_with (first | ((with_reducible refine is_load 39 20 4 ?_); go_must (refine ld_row 39 20 4 w1.heap.size _ _ rfl HB4.out Try.underlying39 msize ?_)) | ((with_reducible refine is_store 39 2 20 ?_); go_must (refine st_row 39 2 20 w.heap.size _ (p.1.row (.slice ad p.1.z.length cd)) _ rfl rfl HBR4.out msize rfl rfl ?_; intro w5 hb5 hg5)))
  refine ret_cb rfl w.heap.size 39 (p.1.row (.slice ad p.1.z.length cd)) (.bool true) rfl rfl hb5 Try.underlying39 msize ?_
  refine ⟨_, _, rfl, (HO4.out.kept hg5 (fun k hk e => by have h1 := (HO1.out.lt k hk).1; rw [HZ.out] at h1; simp at e; omega)).mono (by rw [HZ.out]; omega), HC.out.1.kept hg5 (by simp; omega) (fun k hk e => by rw [HB3E.out] at hk; have := HVL.out k hk; simp at e; omega) (fun q hq hz k hk e => by have h1 := (H.out.data q (by simp [hq])).blk hz k hk; simp at e; omega), (((KM.of HGW2.out (.inl rfl)).trans HC.out.2 (Fr.refl _ _)).more hg5 (fun r hr => by simp at hr; omega)), HB3E.out⟩
end Go.Proofs.Ytfldooljmjeaoaa
