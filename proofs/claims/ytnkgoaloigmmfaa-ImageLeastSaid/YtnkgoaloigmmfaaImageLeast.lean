/-
  law.ImageLeast: the walk.
-/
import Derived.Test.YtnkgoaloigmmfaaImageBack
import Derived.Test.YtnkgoaloigmmfaaICat
import Derived.Deep.RegionHeld3
namespace Go.Proofs.Ytnkgoaloigmmfaa
open Go.RowKit

theorem cell_far {w : World} {g g' i j : Nat} {u : Value} (h : g' ≠ g) : (w.setCell ⟨g, i, none⟩ u).cell? ⟨g', j, none⟩ = w.cell? ⟨g', j, none⟩ := World.cell?_of_block (heap_setCell_other _ _ _ _ (by simpa using h))
theorem CLr.other {te T : TypeId} {w w' : World} {B β : Nat} {v : Value} {ps : List ChP} {cs : Array Value} (h : CLr te w B v ps) (hβ : w.heap[β]? = some (.cells cs T (0, 0))) (hT : T ≠ te) (hB : B ≤ β) (hg : w.grownBy w' (some β)) : CLr te w' B v ps := by
  refine ⟨own2_kept h.1 hg (fun k hk e => ?_), fun p hp => ⟨(h.2 p hp).1.kept hg (fun k hk e => by have := (h.2 p hp).2 k hk; cases e; omega), (h.2 p hp).2⟩⟩
  cases e
  obtain ⟨_, h2⟩ := h.1
  rcases h2 with ⟨rfl, _⟩ | ⟨g, cap, cur, rfl, _, hgg, _⟩
  · simp [Value.ownBlock] at hk
  · simp only [Value.ownBlock, Option.some.injEq] at hk
    subst hk
    rw [hβ] at hgg
    cases hgg
    exact hT rfl
theorem CLr.ne {te T : TypeId} {w : World} {B β : Nat} {v : Value} {ps : List ChP} {cs : Array Value} (h : CLr te w B v ps) (hβ : w.heap[β]? = some (.cells cs T (0, 0))) (hT : T ≠ te) : v.ownBlock ≠ some β := by
  intro hk
  obtain ⟨_, h2⟩ := h.1
  rcases h2 with ⟨rfl, _⟩ | ⟨g, cap, cur, rfl, _, hgg, _⟩
  · simp [Value.ownBlock] at hk
  · simp only [Value.ownBlock, Option.some.injEq] at hk
    subst hk
    rw [hβ] at hgg
    cases hgg
    exact hT rfl
theorem fin_set {te T : TypeId} {w w6 : World} {B β : Nat} {v : Value} {qs : List ChP} (L : Int) (h6 : CLr te w6 B v qs) (hx : w6.heap[β]? = some (.cells #[.int .i64 0, .slice none 0 0] T (0, 0))) (hT : T ≠ te) (hB : B ≤ β) (hg : w.grownBy w6 none) (hw : w.heap.size ≤ β) :
    ∃ Y, Y = (w6.setCell ⟨β, 0, none⟩ (.int .i64 L)).setCell ⟨β, 1, none⟩ v ∧ Y.cell? ⟨β, 0, none⟩ = some (.int .i64 L) ∧ Y.cell? ⟨β, 1, none⟩ = some v ∧ CLr te Y B v qs ∧ w.grownBy Y none := by
  have q1 := heap_setCell_same _ _ 0 _ _ (.int .i64 L) hx
  have q2 := heap_setCell_same _ _ 1 _ _ v q1
  have c1 := h6.other hx hT hB (gb_setCell w6 ⟨β, 0, none⟩ (.int .i64 L))
  have c2 := c1.other q1 hT hB (gb_setCell _ ⟨β, 1, none⟩ v)
  exact ⟨_, rfl, cell_row q2, cell_row q2, c2, gb_trans (gb_trans hg (gb_setCell _ _ _) (fun k hk => .inr (by cases hk; exact hw))) (gb_setCell _ _ _) (fun k hk => .inr (by cases hk; exact hw))⟩
theorem fin_alloc {te T : TypeId} {w w6 : World} {B : Nat} {v : Value} {qs : List ChP} (L : Int) (h6 : CLr te w6 B v qs) (hg : w.grownBy w6 none) :
    ∃ Y, Y = w6.alloc (.cells #[.int .i64 L, v] T) ∧ Y.cell? ⟨w6.heap.size, 0, none⟩ = some (.int .i64 L) ∧ Y.cell? ⟨w6.heap.size, 1, none⟩ = some v ∧ CLr te Y B v qs ∧ w.grownBy Y none :=
  ⟨_, rfl, cell_row (heap_at_alloc _ _), cell_row (heap_at_alloc _ _), h6.grown (gb_alloc _ _ _), gb_same hg (gb_alloc _ _ _)⟩
theorem least_math (a b : List UInt8) (i : Nat) (hi : i < (diffL a b).length) (hv : validB a.length b.length ((diffL a b).take i ++ (diffL a b).drop (i + 1)) = true) : applyL a b.length ((diffL a b).take i ++ (diffL a b).drop (i + 1)) ≠ b := by
  intro e
  unfold validB at hv
  rw [Bool.and_eq_true, decide_eq_true_eq, Int.toNat_natCast, Int.toNat_natCast] at hv
  have hsp := validN_spec (valid_diff a b)
  obtain ⟨c, hc⟩ : ∃ c, (diffL a b)[i]? = some c := ⟨(diffL a b)[i], by simp [hi]⟩
  have hsplit : diffL a b = (diffL a b).take i ++ c :: (diffL a b).drop (i + 1) := by
    have h1 : (diffL a b).drop i = c :: (diffL a b).drop (i + 1) := by
      rw [List.drop_eq_getElem_cons hi]
      congr 1
      rw [List.getElem?_eq_getElem hi] at hc
      exact Option.some.inj hc
    rw [← h1, List.take_append_drop]
  have hp := hsp.2.1
  rw [hsplit, List.pairwise_append] at hp
  have hcm : c ∈ diffL a b := List.mem_of_getElem? hc
  unfold diffL diffTo at hcm
  rw [List.mem_flatMap] at hcm
  obtain ⟨j, hj, hcj⟩ := hcm
  unfold diffAt at hcj
  split at hcj
  · simp at hcj
  · rename_i hne
    simp at hcj hne
    have hj2 : j < (cntI b.length).toNat := List.mem_range.1 hj
    have hf : findC ((diffL a b).take i ++ (diffL a b).drop (i + 1)) j = none := by
      unfold findC
      rw [Option.map_eq_none_iff, List.find?_eq_none]
      intro d hd hdj
      simp at hdj
      have hcj1 : c.1 = j := by rw [hcj]
      rcases List.mem_append.1 hd with hd | hd
      · have := hp.2.2 d hd c (by simp)
        omega
      · have := (List.pairwise_cons.1 hp.2.1).1 d hd
        omega
    have h9 := pg_apply hv.2 j hj2
    rw [hf, Option.getD_none, e] at h9
    exact hne h9

set_option maxRecDepth 100000 in
set_option maxHeartbeats 4000000 in
theorem imageLeast_any (va vb : Value) (a b : List UInt8) (t : UInt8) (w : World) (ha : Rd w va a) (hb : Rd w vb b) :
    Calls Try.prog 8 #[va, vb, .int .u8 (t.toNat : Int)] w (BoolQ true w) := by
  have hsa := ha.small
  have hsb := hb.small
  have HA := Lib.hid ha
  have HB := Lib.hid hb
  obtain ⟨aa, ca, rfl⟩ := ha.len
  obtain ⟨ab, cb, rfl⟩ := hb.len
  clear ha hb
  have HW := Lib.hid (awake_any w)
  by_cases h1 : 2000 < a.length
  · go_enter Try.func8, Try.ntmps8
    go_wp2_with (go_at_call 11; refine HW.out.mono ?_; rintro e w1 ⟨rfl, hg1⟩)
    go_ret
    exact ⟨rfl, hg1⟩
  by_cases h2 : 2000 < b.length
  · go_enter Try.func8, Try.ntmps8
    go_wp2_with (go_at_call 11; refine HW.out.mono ?_; rintro e w1 ⟨rfl, hg1⟩)
    go_ret
    exact ⟨rfl, hg1⟩
  have hd1 : decide ((2000 : Int) < a.length) = false := by simp; omega
  have hd2 : decide ((2000 : Int) < b.length) = false := by simp; omega
  have HDF := Lib.hid (fun W (hg : w.grownBy W none) => diff_any _ _ a b W (HA.out.grown hg) (HB.out.grown hg) (by omega))
  have HB24 : Hid (b.length ≤ 2000) := Lib.hid (by omega)
  have htn := t.toNat_lt
  generalize t.toNat = tn at *
  clear h1 h2
  go_enter Try.func8, Try.ntmps8
  go_wp2_with fail
  refine HW.out.mono ?_; rintro e w1 ⟨rfl, hg1⟩
  have HG1 := Lib.hid hg1
  clear hg1
  go_wp2_with fail
  refine (HDF.out _ HG1.out).mono ?_; rintro e w2 ⟨cv, ps, rfl, hps, hc2, hg2⟩
  obtain ⟨acv, ccv, rfl⟩ := hc2.slice
  have HPS := Lib.hid hps
  have HC2 := Lib.hid hc2
  have HG2 := Lib.hid (gb_same HG1.out hg2)
  clear hps hg2
  by_cases hz : ps.length = 0
  · have hz2 : (ps.length : Int) = 0 := by omega
    clear hc2
    go_wp2
    go_ret
    exact ⟨rfl, gb_same HG2.out (gb_alloc _ _ _)⟩
  have hpl : ps.length ≤ b.length := by
    have h1 := congrArg List.length HPS.out
    have h2 := diffTo_len a b (List.range (cntI b.length).toNat)
    have h3 : (diffL a b).length ≤ (cntI b.length).toNat := by rw [List.length_range] at h2; exact h2
    rw [List.length_map] at h1
    rw [cnt_toNat] at h3
    omega
  have hz3 : 1 ≤ (ps.length : Int) := by omega
  have hz4 : ((ps.length : Int) == 0) = false := by rw [beq_eq_false_iff_ne]; omega
  have hi : tn % ps.length < ps.length := Nat.mod_lt _ (by omega)
  obtain ⟨i, hii⟩ : ∃ i, tn % ps.length = i := ⟨_, rfl⟩
  rw [hii] at hi
  have hia : (tn : Int) % (ps.length : Int) = (i : Int) := by rw [← hii, Int.natCast_emod]
  obtain ⟨gc, oc, rfl, _, _⟩ := hc2.rd.at (i := 0) (p := ps[0]) (by simp)
  have hcc : ps.length ≤ ccv ∧ ccv ≤ maxLen := by
    rcases hc2.rd.1 with ⟨h0, _⟩ | ⟨_, _, _, h0, h1, h2, _⟩
    · cases h0
    · cases h0; exact ⟨h1, h2⟩
  have hcc1 := hcc.1
  have hcc2 := hcc.2
  unfold maxLen at hcc2
  clear hcc hii hz hc2
  obtain ⟨W, hWe⟩ : ∃ W, w2.alloc (Obj.cells #[.int .i64 b.length, .slice (some ⟨gc, oc, none⟩) ps.length ccv] 29) = W := ⟨_, rfl⟩
  have hbx := heap_at_alloc w2 (Obj.cells #[.int .i64 b.length, .slice (some ⟨gc, oc, none⟩) ps.length ccv] 29)
  have hgx := gb_alloc w2 (Obj.cells #[.int .i64 b.length, .slice (some ⟨gc, oc, none⟩) ps.length ccv] 29) none
  have hsz := World.size_alloc w2 (Obj.cells #[.int .i64 b.length, .slice (some ⟨gc, oc, none⟩) ps.length ccv] 29)
  rw [hWe] at hbx hgx hsz
  have HWE := Lib.hid hWe
  have HBX := Lib.hid hbx
  have HGX := Lib.hid hgx
  have HSZ := Lib.hid hsz
  have c0 : W.cell? ⟨w2.heap.size, 0, none⟩ = some (.int .i64 b.length) := cell_row hbx
  have c1 : W.cell? ⟨w2.heap.size, 1, none⟩ = some (.slice (some ⟨gc, oc, none⟩) ps.length ccv) := cell_row hbx
  clear hWe hbx hgx hsz
  have HRT : Hid (∀ X, W.grownBy X none → RdCs X (.slice (some ⟨gc, oc, none⟩) i ccv) (ps.take i)) := Lib.hid (fun X hX => ((HC2.out.rd.grown HGX.out).grown hX).take (by omega))
  have HDB : Hid (∀ p ∈ ps, ∀ k, p.2.ownBlock = some k → k < W.heap.size) := Lib.hid (fun p hp k hk => by have := ((HC2.out.2 p hp).1.lt k hk).2; have := HSZ.out; omega)
  have hkey : ∀ (ad : Option Addr), (∀ X, W.grownBy X none → RdCs X (.slice ad (ps.length - (i + 1)) (ccv - (i + 1))) (ps.drop (i + 1))) → True := fun _ _ => trivial
  have hin : ((i : Int) + 1).toNat = i + 1 := by omega
  have HIN := Lib.hid hin
  clear hin hkey
  obtain ⟨gd, od, HX1, HRD⟩ : ∃ (gd od : Nat), Hid (ccv = i + 1 ∧ gd = gc ∧ od = oc ∨ ¬ i + 1 = ccv ∧ gd = gc ∧ od = oc + (i + 1) * 2) ∧ Hid (∀ X, W.grownBy X none → RdCs X (.slice (some ⟨gd, od, none⟩) (ps.length - (i + 1)) (ccv - (i + 1))) (ps.drop (i + 1))) := by
    by_cases hcap : ccv = i + 1
    · exact ⟨gc, oc, Lib.hid (.inl ⟨hcap, rfl, rfl⟩), Lib.hid (fun X hX => (((HC2.out.rd.grown HGX.out).grown hX).drop (by omega)).2 hcap)⟩
    · exact ⟨gc, oc + (i + 1) * 2, Lib.hid (.inr ⟨by omega, rfl, rfl⟩), Lib.hid (fun X hX => (((HC2.out.rd.grown HGX.out).grown hX).drop (by omega)).1)⟩
  have HL : Hid (∀ (X : World) (g : Nat), W.grownBy X none → X.heap.size = g → CLr 57 (X.alloc (Obj.cells #[] 57)) W.heap.size (.slice (some ⟨g, 0, none⟩) 0 0) []) := Lib.hid (fun X g hX hg => hg ▸ CLr.lit0 _ _ _ hX.size)
  have HTN : Hid ((29 : TypeId) ≠ 57) := Lib.hid (by decide)
  have HN : Hid (ps.length ≤ 2000) := Lib.hid (by have := HB24.out; omega)
  have HTK : Hid (∀ p ∈ ps.take i, ∀ k, p.2.ownBlock = some k → k < W.heap.size) := Lib.hid (fun p hp => HDB.out p (List.mem_of_mem_take hp))
  have HDP : Hid (∀ p ∈ ps.drop (i + 1), ∀ k, p.2.ownBlock = some k → k < W.heap.size) := Lib.hid (fun p hp => HDB.out p (List.mem_of_mem_drop hp))
  obtain ⟨qs1, hq1⟩ : ∃ q, ps.take i = q := ⟨_, rfl⟩
  obtain ⟨qs2, hq2⟩ : ∃ q, ps.drop (i + 1) = q := ⟨_, rfl⟩
  have HQ1 : Hid (qs1.length = i) := Lib.hid (by rw [← hq1, List.length_take]; omega)
  have HQ2 : Hid (qs2.length = ps.length - (i + 1)) := Lib.hid (by rw [← hq2, List.length_drop])
  have HQA : Hid ((qs1 ++ qs2).map (·.1) = (diffL a b).take i ++ (diffL a b).drop (i + 1)) := Lib.hid (by rw [← hq1, ← hq2, List.map_append, List.map_take, List.map_drop, HPS.out])
  rw [hq1] at HRT HTK
  rw [hq2] at HDP HRD
  clear hq1 hq2
  have s1 : w2.heap.size < W.heap.size := by have := HSZ.out; omega
  have s2 : w2.heap.size ≠ W.heap.size := by omega
  have s3 : w2.heap.size ≠ W.heap.size + 1 := by omega
  have hwr : IntKind.i64.wrap ((i : Int) + 1) = (i : Int) + 1 := IntWalk.i64_in _ (by omega)
  go_wp2_with fail
  rw [HWE.out, hia]
  rcases HX1.out with ⟨x1, x2, x3⟩ | ⟨x1, x2, x3⟩
  · subst x1; subst x2; subst x3
    have HCE : Hid (ps.length = i + 1) := Lib.hid (by omega)
    have HRD1 : Hid (∀ (X : World) (n c : Nat), n = 0 → c ≤ maxLen → W.grownBy X none → RdCs X (.slice (some ⟨gd, od, none⟩) n c) qs2) := Lib.hid (fun X n c hn hc hX => by
      have h1 : qs2 = [] := List.eq_nil_of_length_eq_zero (by have := HQ2.out; have := HCE.out; omega)
      subst h1
      subst hn
      exact ⟨.inr ⟨gd, od, c, rfl, Nat.zero_le _, hc, fun j x hj => by simp [cellsC] at hj⟩, fun p hp => by simp at hp⟩)
    have x5 : i ≤ i + 1 := by omega
    have x6 : (i : Int) ≤ (i : Int) + 1 := by omega
    have x7 : 0 ≤ (i : Int) := by omega
    have x8 : (i : Int) + 1 ≤ ps.length := by omega
    have x9 : 0 ≤ (i : Int) + 1 := by omega
    have x10 : ((i : Int) + 1).toNat = i + 1 := by omega
    have x12 : i + 1 ≤ ps.length := by omega
    go_region_held3 (fun w' => w'.cell? ⟨w2.heap.size, 0, none⟩ = some (.int .i64 b.length) ∧ w'.cell? ⟨w2.heap.size, 1, none⟩ = some (.slice (some ⟨gd, od, none⟩) ps.length (i + 1))) (first | go_keep | (constructor <;> (rw [cell_far (by assumption), cell_far (by assumption)]; assumption))) (first | ((refine step_app_chs rfl (.tmp 47) (.tmp 51) rfl W.heap.size _ _ [] qs1 rfl rfl (HL.out W.drew W.heap.size (gb_drew W none) rfl) (HRT.out _ (gb_same (gb_drew W none) (gb_alloc W.drew (Obj.cells #[] 57) none))) HTK.out (by have := HN.out; have := HQ1.out; simp; omega) ((gb_same (gb_drew W none) (gb_alloc W.drew (Obj.cells #[] 57) none)).size) ?_); intro v5 w5 h5 hg5 hf5; rw [List.nil_append] at h5; have hg55 := gb_trans (gb_same (gb_drew W none) (gb_alloc W.drew (Obj.cells #[] 57) none)) hg5 (fun k hk => .inr ((HL.out W.drew W.heap.size (gb_drew W none) rfl).1.lt k hk).1); obtain ⟨a5, c5, rfl⟩ := h5.slice; have H5 := Lib.hid h5; have HG5 : Hid (W.grownBy w5 none) := Lib.hid hg55; have f0 := hg55.cell c0 (by simp); have f1 := hg55.cell c1 (by simp); have s5 : w2.heap.size ≠ w5.heap.size := (by have := HG5.out.size; omega); clear h5 hg5 hf5 hg55) | ((refine step_app_chs rfl (.tmp 47) (.tmp 51) rfl W.heap.size _ _ [] qs1 rfl rfl ((HL.out W W.heap.size (gb_refl W none) rfl).grown (gb_drew _ none)) (HRT.out _ (gb_same (gb_alloc W (Obj.cells #[] 57) none) (gb_drew _ none))) HTK.out (by have := HN.out; have := HQ1.out; simp; omega) ((gb_same (gb_alloc W (Obj.cells #[] 57) none) (gb_drew _ none)).size) ?_); intro v5 w5 h5 hg5 hf5; rw [List.nil_append] at h5; have hg55 := gb_trans (gb_same (gb_alloc W (Obj.cells #[] 57) none) (gb_drew _ none)) hg5 (fun k hk => .inr (((HL.out W W.heap.size (gb_refl W none) rfl).grown (gb_drew _ none)).1.lt k hk).1); obtain ⟨a5, c5, rfl⟩ := h5.slice; have H5 := Lib.hid h5; have HG5 : Hid (W.grownBy w5 none) := Lib.hid hg55; have f0 := hg55.cell c0 (by simp); have f1 := hg55.cell c1 (by simp); have s5 : w2.heap.size ≠ w5.heap.size := (by have := HG5.out.size; omega); clear h5 hg5 hf5 hg55) | ((refine step_app_chs rfl (.tmp 47) (.tmp 51) rfl W.heap.size _ _ [] qs1 rfl rfl ((HL.out (W.alloc (Obj.cells #[.int .i64 0, .slice none 0 0] 29)) (W.heap.size + 1) (gb_alloc W (Obj.cells #[.int .i64 0, .slice none 0 0] 29) none) (World.size_alloc _ _)).grown (gb_drew _ none)) (HRT.out _ (gb_same (gb_same (gb_alloc W (Obj.cells #[.int .i64 0, .slice none 0 0] 29) none) (gb_alloc (W.alloc (Obj.cells #[.int .i64 0, .slice none 0 0] 29)) (Obj.cells #[] 57) none)) (gb_drew _ none))) HTK.out (by have := HN.out; have := HQ1.out; simp; omega) ((gb_same (gb_same (gb_alloc W (Obj.cells #[.int .i64 0, .slice none 0 0] 29) none) (gb_alloc (W.alloc (Obj.cells #[.int .i64 0, .slice none 0 0] 29)) (Obj.cells #[] 57) none)) (gb_drew _ none)).size) ?_); intro v5 w5 h5 hg5 hf5; rw [List.nil_append] at h5; have hg55 := gb_trans (gb_same (gb_same (gb_alloc W (Obj.cells #[.int .i64 0, .slice none 0 0] 29) none) (gb_alloc (W.alloc (Obj.cells #[.int .i64 0, .slice none 0 0] 29)) (Obj.cells #[] 57) none)) (gb_drew _ none)) hg5 (fun k hk => .inr (((HL.out (W.alloc (Obj.cells #[.int .i64 0, .slice none 0 0] 29)) (W.heap.size + 1) (gb_alloc W (Obj.cells #[.int .i64 0, .slice none 0 0] 29) none) (World.size_alloc _ _)).grown (gb_drew _ none)).1.lt k hk).1); have HX5 : Hid (w5.heap[W.heap.size]? = some (Obj.cells #[.int .i64 0, .slice none 0 0] 29 (0, 0))) := Lib.hid (blk_kept' (blk_kept (blk_kept (heap_at_alloc W (Obj.cells #[.int .i64 0, .slice none 0 0] 29)) (gb_alloc (W.alloc (Obj.cells #[.int .i64 0, .slice none 0 0] 29)) (Obj.cells #[] 57) none)) (gb_drew _ none)) hg5 (((HL.out (W.alloc (Obj.cells #[.int .i64 0, .slice none 0 0] 29)) (W.heap.size + 1) (gb_alloc W (Obj.cells #[.int .i64 0, .slice none 0 0] 29) none) (World.size_alloc _ _)).grown (gb_drew _ none)).ne (blk_kept (blk_kept (heap_at_alloc W (Obj.cells #[.int .i64 0, .slice none 0 0] 29)) (gb_alloc (W.alloc (Obj.cells #[.int .i64 0, .slice none 0 0] 29)) (Obj.cells #[] 57) none)) (gb_drew _ none)) HTN.out)); obtain ⟨a5, c5, rfl⟩ := h5.slice; have H5 := Lib.hid h5; have HG5 : Hid (W.grownBy w5 none) := Lib.hid hg55; have f0 := hg55.cell c0 (by simp); have f1 := hg55.cell c1 (by simp); have s5 : w2.heap.size ≠ w5.heap.size := (by have := HG5.out.size; omega); clear h5 hg5 hf5 hg55) | ((refine step_app_chs rfl (.tmp 47) (.tmp 51) rfl W.heap.size _ _ [] qs1 rfl rfl (HL.out (W.drew.alloc (Obj.cells #[.int .i64 0, .slice none 0 0] 29)) (W.heap.size + 1) (gb_same (gb_drew W none) (gb_alloc W.drew (Obj.cells #[.int .i64 0, .slice none 0 0] 29) none)) (World.size_alloc _ _)) (HRT.out _ (gb_same (gb_same (gb_drew W none) (gb_alloc W.drew (Obj.cells #[.int .i64 0, .slice none 0 0] 29) none)) (gb_alloc (W.drew.alloc (Obj.cells #[.int .i64 0, .slice none 0 0] 29)) (Obj.cells #[] 57) none))) HTK.out (by have := HN.out; have := HQ1.out; simp; omega) ((gb_same (gb_same (gb_drew W none) (gb_alloc W.drew (Obj.cells #[.int .i64 0, .slice none 0 0] 29) none)) (gb_alloc (W.drew.alloc (Obj.cells #[.int .i64 0, .slice none 0 0] 29)) (Obj.cells #[] 57) none)).size) ?_); intro v5 w5 h5 hg5 hf5; rw [List.nil_append] at h5; have hg55 := gb_trans (gb_same (gb_same (gb_drew W none) (gb_alloc W.drew (Obj.cells #[.int .i64 0, .slice none 0 0] 29) none)) (gb_alloc (W.drew.alloc (Obj.cells #[.int .i64 0, .slice none 0 0] 29)) (Obj.cells #[] 57) none)) hg5 (fun k hk => .inr ((HL.out (W.drew.alloc (Obj.cells #[.int .i64 0, .slice none 0 0] 29)) (W.heap.size + 1) (gb_same (gb_drew W none) (gb_alloc W.drew (Obj.cells #[.int .i64 0, .slice none 0 0] 29) none)) (World.size_alloc _ _)).1.lt k hk).1); have HX5 : Hid (w5.heap[W.heap.size]? = some (Obj.cells #[.int .i64 0, .slice none 0 0] 29 (0, 0))) := Lib.hid (blk_kept' (blk_kept (heap_at_alloc W.drew (Obj.cells #[.int .i64 0, .slice none 0 0] 29)) (gb_alloc (W.drew.alloc (Obj.cells #[.int .i64 0, .slice none 0 0] 29)) (Obj.cells #[] 57) none)) hg5 ((HL.out (W.drew.alloc (Obj.cells #[.int .i64 0, .slice none 0 0] 29)) (W.heap.size + 1) (gb_same (gb_drew W none) (gb_alloc W.drew (Obj.cells #[.int .i64 0, .slice none 0 0] 29) none)) (World.size_alloc _ _)).ne (blk_kept (heap_at_alloc W.drew (Obj.cells #[.int .i64 0, .slice none 0 0] 29)) (gb_alloc (W.drew.alloc (Obj.cells #[.int .i64 0, .slice none 0 0] 29)) (Obj.cells #[] 57) none)) HTN.out)); obtain ⟨a5, c5, rfl⟩ := h5.slice; have H5 := Lib.hid h5; have HG5 : Hid (W.grownBy w5 none) := Lib.hid hg55; have f0 := hg55.cell c0 (by simp); have f1 := hg55.cell c1 (by simp); have s5 : w2.heap.size ≠ w5.heap.size := (by have := HG5.out.size; omega); clear h5 hg5 hf5 hg55) | ((refine step_app_chs rfl (.tmp 47) (.tmp 51) rfl W.heap.size _ _ [] qs1 rfl rfl (((HL.out W W.heap.size (gb_refl W none) rfl).grown (gb_alloc (W.alloc (Obj.cells #[] 57)) (Obj.cells #[.int .i64 0, .slice none 0 0] 29) none)).grown (gb_drew _ none)) (HRT.out _ (gb_same (gb_same (gb_alloc W (Obj.cells #[] 57) none) (gb_alloc (W.alloc (Obj.cells #[] 57)) (Obj.cells #[.int .i64 0, .slice none 0 0] 29) none)) (gb_drew _ none))) HTK.out (by have := HN.out; have := HQ1.out; simp; omega) ((gb_same (gb_same (gb_alloc W (Obj.cells #[] 57) none) (gb_alloc (W.alloc (Obj.cells #[] 57)) (Obj.cells #[.int .i64 0, .slice none 0 0] 29) none)) (gb_drew _ none)).size) ?_); intro v5 w5 h5 hg5 hf5; rw [List.nil_append] at h5; have hg55 := gb_trans (gb_same (gb_same (gb_alloc W (Obj.cells #[] 57) none) (gb_alloc (W.alloc (Obj.cells #[] 57)) (Obj.cells #[.int .i64 0, .slice none 0 0] 29) none)) (gb_drew _ none)) hg5 (fun k hk => .inr ((((HL.out W W.heap.size (gb_refl W none) rfl).grown (gb_alloc (W.alloc (Obj.cells #[] 57)) (Obj.cells #[.int .i64 0, .slice none 0 0] 29) none)).grown (gb_drew _ none)).1.lt k hk).1); have hL1 : (W.alloc (Obj.cells #[] 57)).heap.size = W.heap.size + 1 := World.size_alloc _ _; have HX5 : Hid (w5.heap[W.heap.size + 1]? = some (Obj.cells #[.int .i64 0, .slice none 0 0] 29 (0, 0))) := Lib.hid (by rw [← hL1]; exact blk_kept' (blk_kept (heap_at_alloc (W.alloc (Obj.cells #[] 57)) (Obj.cells #[.int .i64 0, .slice none 0 0] 29)) (gb_drew _ none)) hg5 ((((HL.out W W.heap.size (gb_refl W none) rfl).grown (gb_alloc (W.alloc (Obj.cells #[] 57)) (Obj.cells #[.int .i64 0, .slice none 0 0] 29) none)).grown (gb_drew _ none)).ne (blk_kept (heap_at_alloc (W.alloc (Obj.cells #[] 57)) (Obj.cells #[.int .i64 0, .slice none 0 0] 29)) (gb_drew _ none)) HTN.out)); clear hL1; obtain ⟨a5, c5, rfl⟩ := h5.slice; have H5 := Lib.hid h5; have HG5 : Hid (W.grownBy w5 none) := Lib.hid hg55; have f0 := hg55.cell c0 (by simp); have f1 := hg55.cell c1 (by simp); have s5 : w2.heap.size ≠ w5.heap.size := (by have := HG5.out.size; omega); clear h5 hg5 hf5 hg55) | ((refine step_app_chs rfl (.tmp 47) (.tmp 51) rfl W.heap.size _ _ [] qs1 rfl rfl ((HL.out W.drew W.heap.size (gb_drew W none) rfl).grown (gb_alloc (W.drew.alloc (Obj.cells #[] 57)) (Obj.cells #[.int .i64 0, .slice none 0 0] 29) none)) (HRT.out _ (gb_same (gb_same (gb_drew W none) (gb_alloc W.drew (Obj.cells #[] 57) none)) (gb_alloc (W.drew.alloc (Obj.cells #[] 57)) (Obj.cells #[.int .i64 0, .slice none 0 0] 29) none))) HTK.out (by have := HN.out; have := HQ1.out; simp; omega) ((gb_same (gb_same (gb_drew W none) (gb_alloc W.drew (Obj.cells #[] 57) none)) (gb_alloc (W.drew.alloc (Obj.cells #[] 57)) (Obj.cells #[.int .i64 0, .slice none 0 0] 29) none)).size) ?_); intro v5 w5 h5 hg5 hf5; rw [List.nil_append] at h5; have hg55 := gb_trans (gb_same (gb_same (gb_drew W none) (gb_alloc W.drew (Obj.cells #[] 57) none)) (gb_alloc (W.drew.alloc (Obj.cells #[] 57)) (Obj.cells #[.int .i64 0, .slice none 0 0] 29) none)) hg5 (fun k hk => .inr (((HL.out W.drew W.heap.size (gb_drew W none) rfl).grown (gb_alloc (W.drew.alloc (Obj.cells #[] 57)) (Obj.cells #[.int .i64 0, .slice none 0 0] 29) none)).1.lt k hk).1); have hL1 : (W.drew.alloc (Obj.cells #[] 57)).heap.size = W.heap.size + 1 := World.size_alloc _ _; have HX5 : Hid (w5.heap[W.heap.size + 1]? = some (Obj.cells #[.int .i64 0, .slice none 0 0] 29 (0, 0))) := Lib.hid (by rw [← hL1]; exact blk_kept' (heap_at_alloc (W.drew.alloc (Obj.cells #[] 57)) (Obj.cells #[.int .i64 0, .slice none 0 0] 29)) hg5 (((HL.out W.drew W.heap.size (gb_drew W none) rfl).grown (gb_alloc (W.drew.alloc (Obj.cells #[] 57)) (Obj.cells #[.int .i64 0, .slice none 0 0] 29) none)).ne (heap_at_alloc (W.drew.alloc (Obj.cells #[] 57)) (Obj.cells #[.int .i64 0, .slice none 0 0] 29)) HTN.out)); clear hL1; obtain ⟨a5, c5, rfl⟩ := h5.slice; have H5 := Lib.hid h5; have HG5 : Hid (W.grownBy w5 none) := Lib.hid hg55; have f0 := hg55.cell c0 (by simp); have f1 := hg55.cell c1 (by simp); have s5 : w2.heap.size ≠ w5.heap.size := (by have := HG5.out.size; omega); clear h5 hg5 hf5 hg55) | ((refine step_app_chs rfl (.tmp 52) (.tmp 57) rfl W.heap.size _ _ qs1 qs2 rfl rfl (H5.out) (HRD1.out _ _ _ (by have := HCE.out; omega) (by unfold maxLen; omega) (HG5.out)) HDP.out (by have := HN.out; have := HQ1.out; have := HQ2.out; omega) (HG5.out).size ?_); intro v6 w6 h6 hg6 hf6; have hg66 := gb_trans (HG5.out) hg6 (fun k hk => .inr ((H5.out).1.lt k hk).1); have HX6 := Lib.hid (blk_kept' HX5.out hg6 (H5.out.ne HX5.out HTN.out)); have x0 := cell_row (j := 0) HX6.out; have x1 := cell_row (j := 1) HX6.out; have x2 := frozen_row (j := 0) HX6.out; have x3 := frozen_row (j := 1) HX6.out; obtain ⟨a6, c6, rfl⟩ := h6.slice; rw [List.length_append] at h6; have H6 := Lib.hid h6; have HG6 : Hid (W.grownBy w6 none) := Lib.hid hg66; have k0 := hg66.cell c0 (by simp); have k1 := hg66.cell c1 (by simp); have s6 : w2.heap.size ≠ w6.heap.size := (by have := HG6.out.size; omega); clear h6 hg6 hf6 hg66) | ((refine step_app_chs rfl (.tmp 52) (.tmp 57) rfl W.heap.size _ _ qs1 qs2 rfl rfl (H5.out) (HRD1.out _ _ _ (by have := HCE.out; omega) (by unfold maxLen; omega) (HG5.out)) HDP.out (by have := HN.out; have := HQ1.out; have := HQ2.out; omega) (HG5.out).size ?_); intro v6 w6 h6 hg6 hf6; have hg66 := gb_trans (HG5.out) hg6 (fun k hk => .inr ((H5.out).1.lt k hk).1); obtain ⟨a6, c6, rfl⟩ := h6.slice; rw [List.length_append] at h6; have H6 := Lib.hid h6; have HG6 : Hid (W.grownBy w6 none) := Lib.hid hg66; have k0 := hg66.cell c0 (by simp); have k1 := hg66.cell c1 (by simp); have s6 : w2.heap.size ≠ w6.heap.size := (by have := HG6.out.size; omega); clear h6 hg6 hf6 hg66) | ((refine step_app_chs rfl (.tmp 52) (.tmp 57) rfl W.heap.size _ _ qs1 qs2 rfl rfl (H5.out.grown (gb_alloc w5 (Obj.cells #[.int .i64 0, .slice none 0 0] 29) none)) (HRD1.out _ _ _ (by have := HCE.out; omega) (by unfold maxLen; omega) (gb_same HG5.out (gb_alloc w5 (Obj.cells #[.int .i64 0, .slice none 0 0] 29) none))) HDP.out (by have := HN.out; have := HQ1.out; have := HQ2.out; omega) (gb_same HG5.out (gb_alloc w5 (Obj.cells #[.int .i64 0, .slice none 0 0] 29) none)).size ?_); intro v6 w6 h6 hg6 hf6; have hg66 := gb_trans (gb_same HG5.out (gb_alloc w5 (Obj.cells #[.int .i64 0, .slice none 0 0] 29) none)) hg6 (fun k hk => .inr ((H5.out.grown (gb_alloc w5 (Obj.cells #[.int .i64 0, .slice none 0 0] 29) none)).1.lt k hk).1); have HX6 := Lib.hid (blk_kept' (heap_at_alloc w5 (Obj.cells #[.int .i64 0, .slice none 0 0] 29)) hg6 ((H5.out.grown (gb_alloc w5 (Obj.cells #[.int .i64 0, .slice none 0 0] 29) none)).ne (heap_at_alloc w5 (Obj.cells #[.int .i64 0, .slice none 0 0] 29)) HTN.out)); have x0 := cell_row (j := 0) HX6.out; have x1 := cell_row (j := 1) HX6.out; have x2 := frozen_row (j := 0) HX6.out; have x3 := frozen_row (j := 1) HX6.out; obtain ⟨a6, c6, rfl⟩ := h6.slice; rw [List.length_append] at h6; have H6 := Lib.hid h6; have HG6 : Hid (W.grownBy w6 none) := Lib.hid hg66; have k0 := hg66.cell c0 (by simp); have k1 := hg66.cell c1 (by simp); have s6 : w2.heap.size ≠ w6.heap.size := (by have := HG6.out.size; omega); clear h6 hg6 hf6 hg66))
    all_goals
      have hwW := (gb_same HG2.out HGX.out).size
      have hg26 := gb_same (gb_same HG2.out HGX.out) HG6.out
      first
        | (obtain ⟨Y, hY, y0, y1, yc, yg⟩ := fin_set (β := W.heap.size) b.length H6.out HX6.out HTN.out (Nat.le_refl _) hg26 hwW; rw [← hY])
        | (obtain ⟨Y, hY, y0, y1, yc, yg⟩ := fin_set (β := W.heap.size + 1) b.length H6.out HX6.out HTN.out (by omega) hg26 (by omega); rw [← hY])
        | (obtain ⟨Y, hY, y0, y1, yc, yg⟩ := fin_set (β := w5.heap.size) b.length H6.out HX6.out HTN.out HG5.out.size hg26 (by have := HG5.out.size; omega); rw [← hY])
        | (obtain ⟨Y, hY, y0, y1, yc, yg⟩ := fin_alloc (T := 29) b.length H6.out hg26; rw [← hY])
      have HY := Lib.hid hY
      have YC := Lib.hid yc
      have YG := Lib.hid yg
      clear hY yc yg hg26 hwW k0 k1 f0 f1 c0 c1
      have HAP := Lib.hid (apply_any (.slice aa a.length ca) _ a b.length (qs1 ++ qs2) Y (HA.out.grown YG.out) YC.out.rd)
      rw [HQA.out, Int.toNat_natCast] at HAP
      have HLM := Lib.hid (least_math a b i (by have := congrArg List.length HPS.out; rw [List.length_map] at this; omega))
      go_wp2_with fail
      refine HAP.out.mono ?_
      rintro e w3 ⟨v3, er, rfl, hg3, hyes, hno⟩
      have HG3 := Lib.hid (gb_same YG.out hg3)
      clear hg3
      cases hok : validB a.length b.length ((diffL a b).take i ++ (diffL a b).drop (i + 1))
      · obtain ⟨rfl, rfl⟩ := hno hok
        clear hyes hno hok
        go_wp2
        go_ret
        exact ⟨rfl, HG3.out⟩
      · obtain ⟨rfl, ho3⟩ := hyes hok
        have hne := HLM.out hok
        clear hyes hno hok
        generalize applyL a b.length ((diffL a b).take i ++ (diffL a b).drop (i + 1)) = la at *
        have hq := str_beq la b
        rw [beq_eq_false_iff_ne.2 hne] at hq
        have hq2 : ((str la).toList != (str b).toList) = true := by rw [bne, hq]; rfl
        have e1 := run_toString w3 _ la ho3.rd
        have e2 := run_toString w3 _ b (HB.out.grown HG3.out)
        obtain ⟨a3, c3, rfl⟩ := ho3.rd.len
        clear ho3 hne
        go_wp2
        go_ret
        exact ⟨rfl, HG3.out⟩
  · subst x2; subst x3
    have x4 : i + 1 < ccv := by omega
    have x5 : i ≤ ccv := by omega
    have x6 : (i : Int) ≤ ccv := by omega
    have x7 : 0 ≤ (i : Int) := by omega
    have x8 : (i : Int) + 1 ≤ ps.length := by omega
    have x9 : 0 ≤ (i : Int) + 1 := by omega
    have x10 : ((i : Int) + 1).toNat = i + 1 := by omega
    have x11 : ¬ ccv = i + 1 := by omega
    have x12 : i + 1 ≤ ps.length := by omega
    have x13 : (ccv == i + 1) = false := by rw [beq_eq_false_iff_ne]; omega
    go_region_held3 (fun w' => w'.cell? ⟨w2.heap.size, 0, none⟩ = some (.int .i64 b.length) ∧ w'.cell? ⟨w2.heap.size, 1, none⟩ = some (.slice (some ⟨gd, oc, none⟩) ps.length ccv)) (first | go_keep | (constructor <;> (rw [cell_far (by assumption), cell_far (by assumption)]; assumption))) (first | ((refine step_app_chs rfl (.tmp 47) (.tmp 51) rfl W.heap.size _ _ [] qs1 rfl rfl (HL.out W.drew W.heap.size (gb_drew W none) rfl) (HRT.out _ (gb_same (gb_drew W none) (gb_alloc W.drew (Obj.cells #[] 57) none))) HTK.out (by have := HN.out; have := HQ1.out; simp; omega) ((gb_same (gb_drew W none) (gb_alloc W.drew (Obj.cells #[] 57) none)).size) ?_); intro v5 w5 h5 hg5 hf5; rw [List.nil_append] at h5; have hg55 := gb_trans (gb_same (gb_drew W none) (gb_alloc W.drew (Obj.cells #[] 57) none)) hg5 (fun k hk => .inr ((HL.out W.drew W.heap.size (gb_drew W none) rfl).1.lt k hk).1); obtain ⟨a5, c5, rfl⟩ := h5.slice; have H5 := Lib.hid h5; have HG5 : Hid (W.grownBy w5 none) := Lib.hid hg55; have f0 := hg55.cell c0 (by simp); have f1 := hg55.cell c1 (by simp); have s5 : w2.heap.size ≠ w5.heap.size := (by have := HG5.out.size; omega); clear h5 hg5 hf5 hg55) | ((refine step_app_chs rfl (.tmp 47) (.tmp 51) rfl W.heap.size _ _ [] qs1 rfl rfl ((HL.out W W.heap.size (gb_refl W none) rfl).grown (gb_drew _ none)) (HRT.out _ (gb_same (gb_alloc W (Obj.cells #[] 57) none) (gb_drew _ none))) HTK.out (by have := HN.out; have := HQ1.out; simp; omega) ((gb_same (gb_alloc W (Obj.cells #[] 57) none) (gb_drew _ none)).size) ?_); intro v5 w5 h5 hg5 hf5; rw [List.nil_append] at h5; have hg55 := gb_trans (gb_same (gb_alloc W (Obj.cells #[] 57) none) (gb_drew _ none)) hg5 (fun k hk => .inr (((HL.out W W.heap.size (gb_refl W none) rfl).grown (gb_drew _ none)).1.lt k hk).1); obtain ⟨a5, c5, rfl⟩ := h5.slice; have H5 := Lib.hid h5; have HG5 : Hid (W.grownBy w5 none) := Lib.hid hg55; have f0 := hg55.cell c0 (by simp); have f1 := hg55.cell c1 (by simp); have s5 : w2.heap.size ≠ w5.heap.size := (by have := HG5.out.size; omega); clear h5 hg5 hf5 hg55) | ((refine step_app_chs rfl (.tmp 47) (.tmp 51) rfl W.heap.size _ _ [] qs1 rfl rfl ((HL.out (W.alloc (Obj.cells #[.int .i64 0, .slice none 0 0] 29)) (W.heap.size + 1) (gb_alloc W (Obj.cells #[.int .i64 0, .slice none 0 0] 29) none) (World.size_alloc _ _)).grown (gb_drew _ none)) (HRT.out _ (gb_same (gb_same (gb_alloc W (Obj.cells #[.int .i64 0, .slice none 0 0] 29) none) (gb_alloc (W.alloc (Obj.cells #[.int .i64 0, .slice none 0 0] 29)) (Obj.cells #[] 57) none)) (gb_drew _ none))) HTK.out (by have := HN.out; have := HQ1.out; simp; omega) ((gb_same (gb_same (gb_alloc W (Obj.cells #[.int .i64 0, .slice none 0 0] 29) none) (gb_alloc (W.alloc (Obj.cells #[.int .i64 0, .slice none 0 0] 29)) (Obj.cells #[] 57) none)) (gb_drew _ none)).size) ?_); intro v5 w5 h5 hg5 hf5; rw [List.nil_append] at h5; have hg55 := gb_trans (gb_same (gb_same (gb_alloc W (Obj.cells #[.int .i64 0, .slice none 0 0] 29) none) (gb_alloc (W.alloc (Obj.cells #[.int .i64 0, .slice none 0 0] 29)) (Obj.cells #[] 57) none)) (gb_drew _ none)) hg5 (fun k hk => .inr (((HL.out (W.alloc (Obj.cells #[.int .i64 0, .slice none 0 0] 29)) (W.heap.size + 1) (gb_alloc W (Obj.cells #[.int .i64 0, .slice none 0 0] 29) none) (World.size_alloc _ _)).grown (gb_drew _ none)).1.lt k hk).1); have HX5 : Hid (w5.heap[W.heap.size]? = some (Obj.cells #[.int .i64 0, .slice none 0 0] 29 (0, 0))) := Lib.hid (blk_kept' (blk_kept (blk_kept (heap_at_alloc W (Obj.cells #[.int .i64 0, .slice none 0 0] 29)) (gb_alloc (W.alloc (Obj.cells #[.int .i64 0, .slice none 0 0] 29)) (Obj.cells #[] 57) none)) (gb_drew _ none)) hg5 (((HL.out (W.alloc (Obj.cells #[.int .i64 0, .slice none 0 0] 29)) (W.heap.size + 1) (gb_alloc W (Obj.cells #[.int .i64 0, .slice none 0 0] 29) none) (World.size_alloc _ _)).grown (gb_drew _ none)).ne (blk_kept (blk_kept (heap_at_alloc W (Obj.cells #[.int .i64 0, .slice none 0 0] 29)) (gb_alloc (W.alloc (Obj.cells #[.int .i64 0, .slice none 0 0] 29)) (Obj.cells #[] 57) none)) (gb_drew _ none)) HTN.out)); obtain ⟨a5, c5, rfl⟩ := h5.slice; have H5 := Lib.hid h5; have HG5 : Hid (W.grownBy w5 none) := Lib.hid hg55; have f0 := hg55.cell c0 (by simp); have f1 := hg55.cell c1 (by simp); have s5 : w2.heap.size ≠ w5.heap.size := (by have := HG5.out.size; omega); clear h5 hg5 hf5 hg55) | ((refine step_app_chs rfl (.tmp 47) (.tmp 51) rfl W.heap.size _ _ [] qs1 rfl rfl (HL.out (W.drew.alloc (Obj.cells #[.int .i64 0, .slice none 0 0] 29)) (W.heap.size + 1) (gb_same (gb_drew W none) (gb_alloc W.drew (Obj.cells #[.int .i64 0, .slice none 0 0] 29) none)) (World.size_alloc _ _)) (HRT.out _ (gb_same (gb_same (gb_drew W none) (gb_alloc W.drew (Obj.cells #[.int .i64 0, .slice none 0 0] 29) none)) (gb_alloc (W.drew.alloc (Obj.cells #[.int .i64 0, .slice none 0 0] 29)) (Obj.cells #[] 57) none))) HTK.out (by have := HN.out; have := HQ1.out; simp; omega) ((gb_same (gb_same (gb_drew W none) (gb_alloc W.drew (Obj.cells #[.int .i64 0, .slice none 0 0] 29) none)) (gb_alloc (W.drew.alloc (Obj.cells #[.int .i64 0, .slice none 0 0] 29)) (Obj.cells #[] 57) none)).size) ?_); intro v5 w5 h5 hg5 hf5; rw [List.nil_append] at h5; have hg55 := gb_trans (gb_same (gb_same (gb_drew W none) (gb_alloc W.drew (Obj.cells #[.int .i64 0, .slice none 0 0] 29) none)) (gb_alloc (W.drew.alloc (Obj.cells #[.int .i64 0, .slice none 0 0] 29)) (Obj.cells #[] 57) none)) hg5 (fun k hk => .inr ((HL.out (W.drew.alloc (Obj.cells #[.int .i64 0, .slice none 0 0] 29)) (W.heap.size + 1) (gb_same (gb_drew W none) (gb_alloc W.drew (Obj.cells #[.int .i64 0, .slice none 0 0] 29) none)) (World.size_alloc _ _)).1.lt k hk).1); have HX5 : Hid (w5.heap[W.heap.size]? = some (Obj.cells #[.int .i64 0, .slice none 0 0] 29 (0, 0))) := Lib.hid (blk_kept' (blk_kept (heap_at_alloc W.drew (Obj.cells #[.int .i64 0, .slice none 0 0] 29)) (gb_alloc (W.drew.alloc (Obj.cells #[.int .i64 0, .slice none 0 0] 29)) (Obj.cells #[] 57) none)) hg5 ((HL.out (W.drew.alloc (Obj.cells #[.int .i64 0, .slice none 0 0] 29)) (W.heap.size + 1) (gb_same (gb_drew W none) (gb_alloc W.drew (Obj.cells #[.int .i64 0, .slice none 0 0] 29) none)) (World.size_alloc _ _)).ne (blk_kept (heap_at_alloc W.drew (Obj.cells #[.int .i64 0, .slice none 0 0] 29)) (gb_alloc (W.drew.alloc (Obj.cells #[.int .i64 0, .slice none 0 0] 29)) (Obj.cells #[] 57) none)) HTN.out)); obtain ⟨a5, c5, rfl⟩ := h5.slice; have H5 := Lib.hid h5; have HG5 : Hid (W.grownBy w5 none) := Lib.hid hg55; have f0 := hg55.cell c0 (by simp); have f1 := hg55.cell c1 (by simp); have s5 : w2.heap.size ≠ w5.heap.size := (by have := HG5.out.size; omega); clear h5 hg5 hf5 hg55) | ((refine step_app_chs rfl (.tmp 47) (.tmp 51) rfl W.heap.size _ _ [] qs1 rfl rfl (((HL.out W W.heap.size (gb_refl W none) rfl).grown (gb_alloc (W.alloc (Obj.cells #[] 57)) (Obj.cells #[.int .i64 0, .slice none 0 0] 29) none)).grown (gb_drew _ none)) (HRT.out _ (gb_same (gb_same (gb_alloc W (Obj.cells #[] 57) none) (gb_alloc (W.alloc (Obj.cells #[] 57)) (Obj.cells #[.int .i64 0, .slice none 0 0] 29) none)) (gb_drew _ none))) HTK.out (by have := HN.out; have := HQ1.out; simp; omega) ((gb_same (gb_same (gb_alloc W (Obj.cells #[] 57) none) (gb_alloc (W.alloc (Obj.cells #[] 57)) (Obj.cells #[.int .i64 0, .slice none 0 0] 29) none)) (gb_drew _ none)).size) ?_); intro v5 w5 h5 hg5 hf5; rw [List.nil_append] at h5; have hg55 := gb_trans (gb_same (gb_same (gb_alloc W (Obj.cells #[] 57) none) (gb_alloc (W.alloc (Obj.cells #[] 57)) (Obj.cells #[.int .i64 0, .slice none 0 0] 29) none)) (gb_drew _ none)) hg5 (fun k hk => .inr ((((HL.out W W.heap.size (gb_refl W none) rfl).grown (gb_alloc (W.alloc (Obj.cells #[] 57)) (Obj.cells #[.int .i64 0, .slice none 0 0] 29) none)).grown (gb_drew _ none)).1.lt k hk).1); have hL1 : (W.alloc (Obj.cells #[] 57)).heap.size = W.heap.size + 1 := World.size_alloc _ _; have HX5 : Hid (w5.heap[W.heap.size + 1]? = some (Obj.cells #[.int .i64 0, .slice none 0 0] 29 (0, 0))) := Lib.hid (by rw [← hL1]; exact blk_kept' (blk_kept (heap_at_alloc (W.alloc (Obj.cells #[] 57)) (Obj.cells #[.int .i64 0, .slice none 0 0] 29)) (gb_drew _ none)) hg5 ((((HL.out W W.heap.size (gb_refl W none) rfl).grown (gb_alloc (W.alloc (Obj.cells #[] 57)) (Obj.cells #[.int .i64 0, .slice none 0 0] 29) none)).grown (gb_drew _ none)).ne (blk_kept (heap_at_alloc (W.alloc (Obj.cells #[] 57)) (Obj.cells #[.int .i64 0, .slice none 0 0] 29)) (gb_drew _ none)) HTN.out)); clear hL1; obtain ⟨a5, c5, rfl⟩ := h5.slice; have H5 := Lib.hid h5; have HG5 : Hid (W.grownBy w5 none) := Lib.hid hg55; have f0 := hg55.cell c0 (by simp); have f1 := hg55.cell c1 (by simp); have s5 : w2.heap.size ≠ w5.heap.size := (by have := HG5.out.size; omega); clear h5 hg5 hf5 hg55) | ((refine step_app_chs rfl (.tmp 47) (.tmp 51) rfl W.heap.size _ _ [] qs1 rfl rfl ((HL.out W.drew W.heap.size (gb_drew W none) rfl).grown (gb_alloc (W.drew.alloc (Obj.cells #[] 57)) (Obj.cells #[.int .i64 0, .slice none 0 0] 29) none)) (HRT.out _ (gb_same (gb_same (gb_drew W none) (gb_alloc W.drew (Obj.cells #[] 57) none)) (gb_alloc (W.drew.alloc (Obj.cells #[] 57)) (Obj.cells #[.int .i64 0, .slice none 0 0] 29) none))) HTK.out (by have := HN.out; have := HQ1.out; simp; omega) ((gb_same (gb_same (gb_drew W none) (gb_alloc W.drew (Obj.cells #[] 57) none)) (gb_alloc (W.drew.alloc (Obj.cells #[] 57)) (Obj.cells #[.int .i64 0, .slice none 0 0] 29) none)).size) ?_); intro v5 w5 h5 hg5 hf5; rw [List.nil_append] at h5; have hg55 := gb_trans (gb_same (gb_same (gb_drew W none) (gb_alloc W.drew (Obj.cells #[] 57) none)) (gb_alloc (W.drew.alloc (Obj.cells #[] 57)) (Obj.cells #[.int .i64 0, .slice none 0 0] 29) none)) hg5 (fun k hk => .inr (((HL.out W.drew W.heap.size (gb_drew W none) rfl).grown (gb_alloc (W.drew.alloc (Obj.cells #[] 57)) (Obj.cells #[.int .i64 0, .slice none 0 0] 29) none)).1.lt k hk).1); have hL1 : (W.drew.alloc (Obj.cells #[] 57)).heap.size = W.heap.size + 1 := World.size_alloc _ _; have HX5 : Hid (w5.heap[W.heap.size + 1]? = some (Obj.cells #[.int .i64 0, .slice none 0 0] 29 (0, 0))) := Lib.hid (by rw [← hL1]; exact blk_kept' (heap_at_alloc (W.drew.alloc (Obj.cells #[] 57)) (Obj.cells #[.int .i64 0, .slice none 0 0] 29)) hg5 (((HL.out W.drew W.heap.size (gb_drew W none) rfl).grown (gb_alloc (W.drew.alloc (Obj.cells #[] 57)) (Obj.cells #[.int .i64 0, .slice none 0 0] 29) none)).ne (heap_at_alloc (W.drew.alloc (Obj.cells #[] 57)) (Obj.cells #[.int .i64 0, .slice none 0 0] 29)) HTN.out)); clear hL1; obtain ⟨a5, c5, rfl⟩ := h5.slice; have H5 := Lib.hid h5; have HG5 : Hid (W.grownBy w5 none) := Lib.hid hg55; have f0 := hg55.cell c0 (by simp); have f1 := hg55.cell c1 (by simp); have s5 : w2.heap.size ≠ w5.heap.size := (by have := HG5.out.size; omega); clear h5 hg5 hf5 hg55) | ((refine step_app_chs rfl (.tmp 52) (.tmp 57) rfl W.heap.size _ _ qs1 qs2 rfl rfl (H5.out) (HRD.out _ (HG5.out)) HDP.out (by have := HN.out; have := HQ1.out; have := HQ2.out; omega) (HG5.out).size ?_); intro v6 w6 h6 hg6 hf6; have hg66 := gb_trans (HG5.out) hg6 (fun k hk => .inr ((H5.out).1.lt k hk).1); have HX6 := Lib.hid (blk_kept' HX5.out hg6 (H5.out.ne HX5.out HTN.out)); have x0 := cell_row (j := 0) HX6.out; have x1 := cell_row (j := 1) HX6.out; have x2 := frozen_row (j := 0) HX6.out; have x3 := frozen_row (j := 1) HX6.out; obtain ⟨a6, c6, rfl⟩ := h6.slice; rw [List.length_append] at h6; have H6 := Lib.hid h6; have HG6 : Hid (W.grownBy w6 none) := Lib.hid hg66; have k0 := hg66.cell c0 (by simp); have k1 := hg66.cell c1 (by simp); have s6 : w2.heap.size ≠ w6.heap.size := (by have := HG6.out.size; omega); clear h6 hg6 hf6 hg66) | ((refine step_app_chs rfl (.tmp 52) (.tmp 57) rfl W.heap.size _ _ qs1 qs2 rfl rfl (H5.out) (HRD.out _ (HG5.out)) HDP.out (by have := HN.out; have := HQ1.out; have := HQ2.out; omega) (HG5.out).size ?_); intro v6 w6 h6 hg6 hf6; have hg66 := gb_trans (HG5.out) hg6 (fun k hk => .inr ((H5.out).1.lt k hk).1); obtain ⟨a6, c6, rfl⟩ := h6.slice; rw [List.length_append] at h6; have H6 := Lib.hid h6; have HG6 : Hid (W.grownBy w6 none) := Lib.hid hg66; have k0 := hg66.cell c0 (by simp); have k1 := hg66.cell c1 (by simp); have s6 : w2.heap.size ≠ w6.heap.size := (by have := HG6.out.size; omega); clear h6 hg6 hf6 hg66) | ((refine step_app_chs rfl (.tmp 52) (.tmp 57) rfl W.heap.size _ _ qs1 qs2 rfl rfl (H5.out.grown (gb_alloc w5 (Obj.cells #[.int .i64 0, .slice none 0 0] 29) none)) (HRD.out _ (gb_same HG5.out (gb_alloc w5 (Obj.cells #[.int .i64 0, .slice none 0 0] 29) none))) HDP.out (by have := HN.out; have := HQ1.out; have := HQ2.out; omega) (gb_same HG5.out (gb_alloc w5 (Obj.cells #[.int .i64 0, .slice none 0 0] 29) none)).size ?_); intro v6 w6 h6 hg6 hf6; have hg66 := gb_trans (gb_same HG5.out (gb_alloc w5 (Obj.cells #[.int .i64 0, .slice none 0 0] 29) none)) hg6 (fun k hk => .inr ((H5.out.grown (gb_alloc w5 (Obj.cells #[.int .i64 0, .slice none 0 0] 29) none)).1.lt k hk).1); have HX6 := Lib.hid (blk_kept' (heap_at_alloc w5 (Obj.cells #[.int .i64 0, .slice none 0 0] 29)) hg6 ((H5.out.grown (gb_alloc w5 (Obj.cells #[.int .i64 0, .slice none 0 0] 29) none)).ne (heap_at_alloc w5 (Obj.cells #[.int .i64 0, .slice none 0 0] 29)) HTN.out)); have x0 := cell_row (j := 0) HX6.out; have x1 := cell_row (j := 1) HX6.out; have x2 := frozen_row (j := 0) HX6.out; have x3 := frozen_row (j := 1) HX6.out; obtain ⟨a6, c6, rfl⟩ := h6.slice; rw [List.length_append] at h6; have H6 := Lib.hid h6; have HG6 : Hid (W.grownBy w6 none) := Lib.hid hg66; have k0 := hg66.cell c0 (by simp); have k1 := hg66.cell c1 (by simp); have s6 : w2.heap.size ≠ w6.heap.size := (by have := HG6.out.size; omega); clear h6 hg6 hf6 hg66))
    all_goals
      have hwW := (gb_same HG2.out HGX.out).size
      have hg26 := gb_same (gb_same HG2.out HGX.out) HG6.out
      first
        | (obtain ⟨Y, hY, y0, y1, yc, yg⟩ := fin_set (β := W.heap.size) b.length H6.out HX6.out HTN.out (Nat.le_refl _) hg26 hwW; rw [← hY])
        | (obtain ⟨Y, hY, y0, y1, yc, yg⟩ := fin_set (β := W.heap.size + 1) b.length H6.out HX6.out HTN.out (by omega) hg26 (by omega); rw [← hY])
        | (obtain ⟨Y, hY, y0, y1, yc, yg⟩ := fin_set (β := w5.heap.size) b.length H6.out HX6.out HTN.out HG5.out.size hg26 (by have := HG5.out.size; omega); rw [← hY])
        | (obtain ⟨Y, hY, y0, y1, yc, yg⟩ := fin_alloc (T := 29) b.length H6.out hg26; rw [← hY])
      have HY := Lib.hid hY
      have YC := Lib.hid yc
      have YG := Lib.hid yg
      clear hY yc yg hg26 hwW k0 k1 f0 f1 c0 c1
      have HAP := Lib.hid (apply_any (.slice aa a.length ca) _ a b.length (qs1 ++ qs2) Y (HA.out.grown YG.out) YC.out.rd)
      rw [HQA.out, Int.toNat_natCast] at HAP
      have HLM := Lib.hid (least_math a b i (by have := congrArg List.length HPS.out; rw [List.length_map] at this; omega))
      go_wp2_with fail
      refine HAP.out.mono ?_
      rintro e w3 ⟨v3, er, rfl, hg3, hyes, hno⟩
      have HG3 := Lib.hid (gb_same YG.out hg3)
      clear hg3
      cases hok : validB a.length b.length ((diffL a b).take i ++ (diffL a b).drop (i + 1))
      · obtain ⟨rfl, rfl⟩ := hno hok
        clear hyes hno hok
        go_wp2
        go_ret
        exact ⟨rfl, HG3.out⟩
      · obtain ⟨rfl, ho3⟩ := hyes hok
        have hne := HLM.out hok
        clear hyes hno hok
        generalize applyL a b.length ((diffL a b).take i ++ (diffL a b).drop (i + 1)) = la at *
        have hq := str_beq la b
        rw [beq_eq_false_iff_ne.2 hne] at hq
        have hq2 : ((str la).toList != (str b).toList) = true := by rw [bne, hq]; rfl
        have e1 := run_toString w3 _ la ho3.rd
        have e2 := run_toString w3 _ b (HB.out.grown HG3.out)
        obtain ⟨a3, c3, rfl⟩ := ho3.rd.len
        clear ho3 hne
        go_wp2
        go_ret
        exact ⟨rfl, HG3.out⟩
end Go.Proofs.Ytnkgoaloigmmfaa
