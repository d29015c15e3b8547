/-
  law.SlotsMap: the walk.
-/
import Derived.Test.YtjijiondinbmnaaTPRow
import Derived.Test.YtjijiondinbmnaaTMapS
import Derived.BigQuiet
import Derived.Deep.RegionWith
import Derived.Deep.CutBlock
namespace Go.Proofs.Ytjijiondinbmnaa
open Go.RowKit

theorem map_none {ls : List SS} {m : List PT} {x : Int} (hp : m.Perm (pairsL ls)) (h : ∀ p ∈ m, p.1 ≠ x) : findI ls x = none := by
  rcases errF_some (l := ls) (x := x) with ⟨h1, _⟩ | ⟨_, _, h1⟩
  · exact absurd rfl (h _ (hp.mem_iff.2 (pairs_mem h1)))
  · exact h1
theorem map_some {ls : List SS} {m : List PT} {x v : Int} (hp : m.Perm (pairsL ls)) (h : (x, v) ∈ m) : ∃ i, findI ls x = some i := by
  have h1 := (mem_pairs (hp.mem_iff.1 h)).1
  rcases errF_some (l := ls) (x := x) with ⟨_, _, h2⟩ | ⟨h2, _⟩
  · exact h2
  · rw [h1] at h2; cases h2
theorem map_put {ls : List SS} {m : List PT} (v : Int) (hp : m.Perm (pairsL ls)) (he : putE ls = 0) : (m ++ [(putH ls, v)]).Perm (pairsL (putL ls v)) :=
  (List.perm_append_comm.trans (List.Perm.cons _ hp)).trans (pairs_put v he).symm
theorem map_drop {ls : List SS} {m : List PT} {x v : Int} {a : Nat} (hp : m.Perm (pairsL ls)) (h : m[a]? = some (x, v)) : (m.take a ++ m.drop (a + 1)).Perm (pairsL (dropL ls x)) := by
  have hm := List.mem_of_getElem? h
  obtain ⟨i, hi⟩ := map_some hp hm
  have hv := (mem_pairs (hp.mem_iff.1 hm)).2
  have h1 := pairs_drop hi
  rw [hv] at h1
  exact (((perm_at h).symm.trans hp).trans h1).cons_inv
theorem map_set {ls : List SS} {m : List PT} {x v y : Int} {a : Nat} (hp : m.Perm (pairsL ls)) (h : m[a]? = some (x, v)) : (m.set a (x, y)).Perm (pairsL (setL ls x y)) := by
  have hm := List.mem_of_getElem? h
  obtain ⟨i, hi⟩ := map_some hp hm
  exact ((perm_set h).trans (List.Perm.cons _ (map_drop hp h))).trans (pairs_set y hi).symm
theorem map_len {ls : List SS} {m : List PT} (hp : m.Perm (pairsL ls)) : (hsN ls ls.length).length = m.length := by
  rw [hp.length_eq, hs_pairs ls _ (Nat.le_refl _)]; rfl
theorem drop_rd {w : World} {gm n c : Nat} {m : List PT} {k : Nat} (h : RdP w (.slice (some ⟨gm, 0, none⟩) n c) m) (hn : n = m.length) (hc : m.length ≤ c) :
    RdP w (.slice (if c = k + 1 then some ⟨gm, 0, none⟩ else some ⟨gm, (k + 1) * 2, none⟩) (n - (k + 1)) (c - (k + 1))) (m.drop (k + 1)) := by
  split
  · exact (h.drop hn).2 (by omega)
  · have h1 := (h.drop hn (k := k + 1)).1
    rwa [Nat.zero_add] at h1
def AtR (m : List PT) (x : Int) (j : Nat) (a : Int) : Prop := (a = -1 ∧ ∀ p ∈ m.take j, p.1 ≠ x) ∨ ∃ (i : Nat) (v : Int), i < j ∧ a = (i : Int) ∧ m[i]? = some (x, v)
theorem AtR.miss {m : List PT} {x : Int} {j : Nat} {a : Int} {p : PT} (h : AtR m x j a) (hp : m[j]? = some p) (hne : p.1 ≠ x) : AtR m x (j + 1) a := by
  rcases h with ⟨rfl, h1⟩ | ⟨i, v, h1, h2, h3⟩
  · refine .inl ⟨rfl, fun q hq => ?_⟩
    rw [List.take_add_one, hp] at hq
    rcases List.mem_append.1 hq with h | h
    · exact h1 q h
    · simp at h; subst h; exact hne
  · exact .inr ⟨i, v, by omega, h2, h3⟩
theorem AtR.hit {m : List PT} {x : Int} {j : Nat} {p : PT} (hp : m[j]? = some p) (he : p.1 = x) : AtR m x (j + 1) (j : Int) := by
  obtain ⟨p1, p2⟩ := p
  simp only at he
  subst he
  exact .inr ⟨j, p2, by omega, rfl, hp⟩
set_option maxRecDepth 100000 in
set_option maxHeartbeats 8000000 in
theorem slotsMap_main (lv : Value) (ps : List ST) (N : Nat) (w : World) (hl : RdT w lv ps) (hps : ∀ p ∈ ps, OkT p) (hn1 : 1 ≤ (N : Int)) (hn2 : (N : Int) ≤ 20) (hlen : (ps.length : Int) ≤ 60) : Calls Try.prog 8 #[lv, .int .i64 (N : Int)] w (BoolQ true w) := by
  have hsm := hl.small
  have HA := Lib.hid (awake_any w)
  obtain ⟨al, cl, rfl⟩ := hl.len
  have HL := Lib.hid hl
  have HPS := Lib.hid hps
  clear hl hps
  go_enter Try.func8, Try.ntmps8
  go_wp2_with fail
  refine HA.out.mono ?_
  rintro e w1 ⟨rfl, hg1⟩
  have HG1 := Lib.hid hg1
  clear hg1
  have HN := Lib.hid (new_any N w1 (by omega) (by omega))
  have hn3 : (N : Int) ≤ 200 := by omega
  go_wp2_with fail
  refine HN.out.mono ?_
  rintro e w2 ⟨g, s, rfl, hg, hs, hg2, ht2⟩
  have hsize := HG1.out.size
  have HG2 := Lib.hid (gb_same HG1.out hg2)
  have HT2 := Lib.hid ht2
  have HB := Lib.hid (show w.heap.size ≤ g ∧ w.heap.size ≤ s ∧ g < w2.heap.size ∧ s < w2.heap.size from ⟨by omega, by omega, ht2.lt.1, ht2.lt.2⟩)
  clear hg2 ht2 hg hs hsize
  go_wp2
  go_loopw [7, 8] (fun v i wr => ∃ (k : Nat) (ls : List SS) (m : List PT), k ≤ ps.length ∧ i = .int .i64 k ∧ m.length ≤ k ∧ Hid (IsT wr g s ls) ∧ Hid (MRow wr w2.heap.size v m) ∧ Hid (m.Perm (pairsL ls)) ∧ Hid (∀ p ∈ m, OkI p.1) ∧ Hid (w.grownBy wr none) ∧ Hid (w2.heap.size ≤ wr.heap.size)) (fun _ i _ => ps.length - (intOf i).toNat)
  case atStart => exact ⟨0, newS N, [], Nat.zero_le _, rfl, Nat.zero_le _, HT2, Lib.hid (MRow.nil _ _), Lib.hid (by rw [pairs_new]), Lib.hid (by simp), HG2, Lib.hid (Nat.le_refl _)⟩
  case round =>
    obtain ⟨k, ls, m, hk, rfl, hmk, HT, HM, HP, HOKM, HG, HS⟩ := hrel
    by_cases hlt : k < ps.length
    · obtain ⟨p, hp⟩ : ∃ p, ps[k]? = some p := ⟨ps[k], by simp [hlt]⟩
      have hok := HPS.out p (List.mem_of_getElem? hp)
      have HOK := Lib.hid hok
      obtain ⟨gb, off, eal, _, _, _⟩ := (HL.out.grown HG.out).at hp
      subst eal
      have HPK := Lib.hid hp
      obtain ⟨kind, hd, val⟩ := p
      obtain ⟨am, cm, hvm, hcm1, hcm2⟩ := HM.out.len
      subst hvm
      have HCM := Lib.hid hcm1
      clear hp hok hcm1 hcm2
      rename World => wo
      go_wp2
      go_loopw [9, 10] (fun a j wr => ∃ (t : Nat) (ai : Int), t ≤ m.length ∧ j = .int .i64 t ∧ a = .int .i64 ai ∧ Hid (AtR m hd t ai) ∧ Hid (wo.grownBy wr none)) (fun _ j _ => m.length - (intOf j).toNat)
      case atStart => exact ⟨0, -1, Nat.zero_le _, rfl, rfl, Lib.hid (.inl ⟨rfl, by simp⟩), Lib.hid (gb_refl _ _)⟩
      case round =>
        obtain ⟨t, ai, ht, rfl, rfl, HAT, HJ⟩ := hrel
        obtain ⟨_, _, eo, q0, q1, q2⟩ := (HL.out.grown (gb_same HG.out HJ.out)).at HPK.out
        cases eo
        simp only at q0 q1 q2
        by_cases htl : t < m.length
        · obtain ⟨pp, hpp⟩ : ∃ pp, m[t]? = some pp := ⟨_, List.getElem?_eq_getElem htl⟩
          obtain ⟨gm, rfl, r0, _, _, _⟩ := (HM.out.grown HJ.out).at hpp
          have HPP := Lib.hid hpp
          clear hpp
          obtain ⟨ph, pv⟩ := pp
          simp only at r0
          have q1d := (gb_drew wr none).cell q1 (by simp)
          have r0d := (gb_drew wr none).cell r0 (by simp)
          by_cases hh : ph = hd
          · have HX := Lib.hid (AtR.hit HPP.out hh)
            subst hh
            go_wp2
            go_quiet (fail)
            go_wp2
            go_roundw
            case rel => exact ⟨t + 1, (t : Int), by omega, by go_num, rfl, HX, Lib.hid (gb_same HJ.out (gb_drewN _ _ _))⟩
            case measure => simp [intOf]; omega
          · have HX := Lib.hid (AtR.miss HAT.out HPP.out hh)
            have hb : (ph == hd) = false := by simpa using hh
            clear hh
            go_wp2
            go_quiet (fail)
            go_wp2
            go_roundw
            case rel => exact ⟨t + 1, ai, by omega, by go_num, rfl, HX, Lib.hid (gb_same HJ.out (gb_drewN _ _ _))⟩
            case measure => simp [intOf]; omega
        · obtain rfl : t = m.length := by omega
          clear htl ht
          rename World => wq
          have HGR := Lib.hid (gb_same HG.out HJ.out)
          have HTR := Lib.hid (HT.out.grown HJ.out)
          have HMR := Lib.hid (HM.out.grown HJ.out)
          have HSR := Lib.hid (Nat.le_trans HS.out HJ.out.size)
          have hout : ∀ k2, (Value.slice am m.length cm).ownBlock = some k2 → some s ≠ some k2 := fun k2 e2 => by
            have := World.ownsRow.lt HM.out k2 e2; have := HB.out.2.2.2; simp; omega
          have HOUT := Lib.hid hout
          clear hout
          go_upto_block 4 with fail
          go_cut [7] from 47 to 205 (fun v wx => ∃ (L : List SS) (M : List PT), Hid (IsT wx g s L) ∧ Hid (MRow wx w2.heap.size v M) ∧ Hid (M.Perm (pairsL L)) ∧ Hid (w.grownBy wx none) ∧ Hid (w2.heap.size ≤ wx.heap.size) ∧ Hid (M.length ≤ k + 1) ∧ Hid (∀ p ∈ M, OkI p.1) ∧ Hid (kind = 3 → getB L hd = false))
          case first =>
            by_cases h0 : kind = 0
            · subst h0
              have hpu := put_any HTR.out val HOK.out.2.2
              unfold PutP at hpu
              rcases putE_cases ls with he | he
              · rw [he] at hpu
                have HPU := Lib.hid hpu
                have HP4 := Lib.hid (map_put val HP.out he)
                have HHH : Hid (OkI (putH ls)) := Lib.hid (putH_ok HTR.out.len HTR.out.ok)
                clear hpu he
                generalize putH ls = hh at HPU HP4 HHH
                go_wp2_with fail
                refine HPU.out.mono ?_
                rintro e w3 ⟨rfl, hg3, ht3⟩
                have HT3 := Lib.hid ht3
                have HM3 := Lib.hid (HMR.out.kept hg3 (fun k2 e2 => HOUT.out k2 e2))
                have HG3 := Lib.hid (gb_new HGR.out hg3 HB.out.2.1)
                have HS3 := Lib.hid (Nat.le_trans HSR.out hg3.size)
                obtain ⟨_, _, eo, q0, q1, q2⟩ := (HL.out.grown HG3.out).at HPK.out
                cases eo
                simp only at q0 q1 q2
                clear hg3 ht3
                obtain ⟨w5, hw5⟩ : ∃ w5, w3.alloc (.cells #[.int .i64 hh, .int .i64 val] 58) = w5 := ⟨_, rfl⟩
                have HB5 : Hid (w5.heap[w3.heap.size]? = some (.cells #[.int .i64 hh, .int .i64 val] 58 (0, 0))) := Lib.hid (by rw [← hw5]; exact heap_at_alloc _ _)
                have HG5 : Hid (w3.grownBy w5 none) := Lib.hid (by rw [← hw5]; exact gb_alloc _ _ _)
                have HW5 := Lib.hid hw5
                clear hw5
                go_wp2_with (at_builtin; rw [HW5.out]; refine app_pair rfl _ _ rfl w2.heap.size (.slice am m.length cm) _ m [(hh, val)] rfl rfl (HM3.out.grown HG5.out) (RdP.one HB5.out) (by simp; omega) (Nat.le_trans HS3.out HG5.out.size) ?_)
                intro v' w6 ho6 hg6 hf6
                have HM4 := Lib.hid ho6
                have hne6 : ∀ k2, (Value.slice am m.length cm).ownBlock = some k2 → w2.heap.size ≤ k2 := fun k2 e2 => (World.ownsRow.lt HM.out k2 e2).1
                have HT4 := Lib.hid ((HT3.out.grown HG5.out).kept hg6 (fun e => by have := hne6 _ e; have := HB.out.2.2.1; omega) (fun e => by have := hne6 _ e; have := HB.out.2.2.2; omega))
                have HG4 := Lib.hid (gb_trans (gb_same HG3.out HG5.out) hg6 (fun k2 e => .inr (by have := hne6 _ e; have := HG2.out.size; omega)))
                have HS4 := Lib.hid (Nat.le_trans HS3.out (Nat.le_trans HG5.out.size hg6.size))
                have HK4 : Hid ((m ++ [(hh, val)]).length ≤ k + 1) := Lib.hid (by simp; omega)
                have HOKM : Hid (∀ p ∈ m ++ [(hh, val)], OkI p.1) := Lib.hid (by
                  intro p hp
                  rcases List.mem_append.1 hp with h | h
                  · exact HOKM.out p h
                  · simp at h; subst h; exact HHH.out)
                clear ho6 hg6 hf6 hne6
                go_wp2
                all_goals go_meet
                all_goals exact ⟨putL ls val, m ++ [(hh, val)], HT4, HM4, HP4, HG4, HS4, HK4, HOKM, Lib.hid (fun e => absurd e (by first | omega | assumption))⟩
              · rw [he] at hpu
                have HPU := Lib.hid hpu
                have HP4 : Hid (m.Perm (pairsL (putL ls val))) := Lib.hid (by rw [put_same val he]; exact HP.out)
                clear hpu he
                generalize putH ls = hh at HPU
                go_wp2_with fail
                refine HPU.out.mono ?_
                rintro e w3 ⟨rfl, hg3, ht3⟩
                have HT4 := Lib.hid ht3
                have HM4 := Lib.hid (HMR.out.kept hg3 (fun k2 e2 => HOUT.out k2 e2))
                have HG4 := Lib.hid (gb_new HGR.out hg3 HB.out.2.1)
                have HS4 := Lib.hid (Nat.le_trans HSR.out hg3.size)
                have HK4 : Hid (m.length ≤ k + 1) := Lib.hid (by omega)
                clear hg3 ht3
                go_wp2
                all_goals go_meet
                all_goals exact ⟨putL ls val, m, HT4, HM4, HP4, HG4, HS4, HK4, HOKM, Lib.hid (fun e => absurd e (by first | omega | assumption))⟩
            · have h0' : (kind == 0) = false := by simpa using h0
              by_cases h2 : kind = 2
              · subst h2
                clear h0 h0'
                rcases HAT.out with ⟨rfl, hno⟩ | ⟨ia, va, hia, rfl, hma⟩
                · rw [List.take_of_length_le (Nat.le_refl _)] at hno
                  have hfn := map_none HP.out hno
                  have HF := Lib.hid hfn
                  clear hfn hno
                  have hse := set_any (HTR.out.grown (gb_drew _ _)) hd val HOK.out.2.1 HOK.out.2.2
                  have her : errF ls hd = 8 := by unfold errF; rw [HF.out]
                  rw [her] at hse
                  have HSE := Lib.hid hse
                  have HS0 : wq.drew.cell? ⟨gb, off + k * 3 + 1, none⟩ = some (.int .i64 hd) ∧ wq.drew.cell? ⟨gb, off + k * 3 + 2, none⟩ = some (.int .i64 val) := ⟨(gb_drew wq none).cell q1 (by simp), (gb_drew wq none).cell q2 (by simp)⟩
                  clear hse her
                  go_wp2_with fail
                  refine region_KL (fuel := 16) (listed := #[false, false, false, false, false, false, false, false, false, false, false, false, false, false, false, false]) (fun X => X.cell? ⟨gb, off + k * 3 + 1, none⟩ = some (.int .i64 hd) ∧ X.cell? ⟨gb, off + k * 3 + 2, none⟩ = some (.int .i64 val)) 15 (by kernel_rfl) rfl (by kernel_rfl) ?_
                  refine wpAnyK_takeL (i := 0) (d := 102) (v := ?_) (T' := ?_) (listed' := #[true, false, false, false, false, false, false, false, false, false, false, false, false, false, false, false]) rfl rfl (by kernel_rfl) (fun _ _ _ h => h) rfl (Or.inl ⟨by rfl, ?_⟩) ?_ HS0 ?_
                  rotate_left 2
                  · intro w hS; clear hS; go_simp; rfl
                  · simp only [List.setIfInBounds_toArray, List.set_cons_succ, List.set_cons_zero]; rfl
                  refine wpAnyK_takeL (i := 1) (d := 103) (v := ?_) (T' := ?_) (listed' := #[true, true, false, false, false, false, false, false, false, false, false, false, false, false, false, false]) rfl rfl (by kernel_rfl) (fun _ _ _ h => h) rfl (Or.inl ⟨by rfl, ?_⟩) ?_ HS0 ?_
                  rotate_left 2
                  · intro w hS; clear hS; go_simp; rfl
                  · simp only [List.setIfInBounds_toArray, List.set_cons_succ, List.set_cons_zero]; rfl
                  refine wpAnyK_takeL (i := 2) (d := 104) (v := ?_) (T' := ?_) (listed' := #[true, true, true, false, false, false, false, false, false, false, false, false, false, false, false, false]) rfl rfl (by kernel_rfl) (fun _ _ _ h => h) rfl (Or.inl ⟨by rfl, ?_⟩) ?_ HS0 ?_
                  rotate_left 2
                  · intro w hS; clear hS; go_simp; rfl
                  · simp only [List.setIfInBounds_toArray, List.set_cons_succ, List.set_cons_zero]; rfl
                  refine wpAnyK_takeL (i := 3) (d := 105) (v := ?_) (T' := ?_) (listed' := #[true, true, true, true, false, false, false, false, false, false, false, false, false, false, false, false]) rfl rfl (by kernel_rfl) (fun _ _ _ h => h) rfl (Or.inl ⟨by rfl, ?_⟩) ?_ HS0 ?_
                  rotate_left 2
                  · intro w hS; clear hS; go_simp; rfl
                  · simp only [List.setIfInBounds_toArray, List.set_cons_succ, List.set_cons_zero]; rfl
                  refine wpAnyK_takeL (i := 4) (d := 106) (v := ?_) (T' := ?_) (listed' := #[true, true, true, true, true, false, false, false, false, false, false, false, false, false, false, false]) rfl rfl (by kernel_rfl) (fun _ _ _ h => h) rfl (Or.inl ⟨by rfl, ?_⟩) ?_ HS0 ?_
                  rotate_left 2
                  · intro w hS; clear hS; go_simp; rfl
                  · simp only [List.setIfInBounds_toArray, List.set_cons_succ, List.set_cons_zero]; rfl
                  refine wpAnyK_takeL (i := 5) (d := 107) (v := ?_) (T' := ?_) (listed' := #[true, true, true, true, true, true, false, false, false, false, false, false, false, false, false, false]) rfl rfl (by kernel_rfl) (fun _ _ _ h => h) rfl (Or.inl ⟨by rfl, ?_⟩) ?_ HS0 ?_
                  rotate_left 2
                  · intro w hS; have t0 := hS.1; clear hS; go_simp; rfl
                  · simp only [List.setIfInBounds_toArray, List.set_cons_succ, List.set_cons_zero]; rfl
                  refine wpAnyK_takeL (i := 6) (d := 108) (v := ?_) (T' := ?_) (listed' := #[true, true, true, true, true, true, true, false, false, false, false, false, false, false, false, false]) rfl rfl (by kernel_rfl) (fun _ _ _ h => h) rfl (Or.inl ⟨by rfl, ?_⟩) ?_ HS0 ?_
                  rotate_left 2
                  · intro w hS; clear hS; go_simp; rfl
                  · simp only [List.setIfInBounds_toArray, List.set_cons_succ, List.set_cons_zero]; rfl
                  refine wpAnyK_takeL (i := 7) (d := 109) (v := ?_) (T' := ?_) (listed' := #[true, true, true, true, true, true, true, true, false, false, false, false, false, false, false, false]) rfl rfl (by kernel_rfl) (fun _ _ _ h => h) rfl (Or.inl ⟨by rfl, ?_⟩) ?_ HS0 ?_
                  rotate_left 2
                  · intro w hS; clear hS; go_simp; rfl
                  · simp only [List.setIfInBounds_toArray, List.set_cons_succ, List.set_cons_zero]; rfl
                  refine wpAnyK_takeL (i := 8) (d := 110) (v := ?_) (T' := ?_) (listed' := #[true, true, true, true, true, true, true, true, true, false, false, false, false, false, false, false]) rfl rfl (by kernel_rfl) (fun _ _ _ h => h) rfl (Or.inl ⟨by rfl, ?_⟩) ?_ HS0 ?_
                  rotate_left 2
                  · intro w hS; clear hS; go_simp; rfl
                  · simp only [List.setIfInBounds_toArray, List.set_cons_succ, List.set_cons_zero]; rfl
                  refine wpAnyK_takeL (i := 9) (d := 111) (v := ?_) (T' := ?_) (listed' := #[true, true, true, true, true, true, true, true, true, true, false, false, false, false, false, false]) rfl rfl (by kernel_rfl) (fun _ _ _ h => h) rfl (Or.inl ⟨by rfl, ?_⟩) ?_ HS0 ?_
                  rotate_left 2
                  · intro w hS; clear hS; go_simp; rfl
                  · simp only [List.setIfInBounds_toArray, List.set_cons_succ, List.set_cons_zero]; rfl
                  refine wpAnyK_takeL (i := 10) (d := 112) (v := ?_) (T' := ?_) (listed' := #[true, true, true, true, true, true, true, true, true, true, true, false, false, false, false, false]) rfl rfl (by kernel_rfl) (fun _ _ _ h => h) rfl (Or.inl ⟨by rfl, ?_⟩) ?_ HS0 ?_
                  rotate_left 2
                  · intro w hS; have t1 := hS.2; clear hS; go_simp; rfl
                  · simp only [List.setIfInBounds_toArray, List.set_cons_succ, List.set_cons_zero]; rfl
                  refine wpAnyK_takeL (i := 13) (d := 115) (v := ?_) (T' := ?_) (listed' := #[true, true, true, true, true, true, true, true, true, true, true, false, false, true, false, false]) rfl rfl (by kernel_rfl) (fun _ _ _ h => h) rfl (Or.inl ⟨by rfl, ?_⟩) ?_ HS0 ?_
                  rotate_left 2
                  · intro w hS; clear hS; go_simp; rfl
                  · simp only [List.setIfInBounds_toArray, List.set_cons_succ, List.set_cons_zero]; rfl
                  refine wpAnyK_takeL (i := 14) (d := 116) (v := ?_) (T' := ?_) (listed' := #[true, true, true, true, true, true, true, true, true, true, true, false, false, true, true, false]) rfl rfl (by kernel_rfl) (fun _ _ _ h => h) rfl (Or.inl ⟨by rfl, ?_⟩) ?_ HS0 ?_
                  rotate_left 2
                  · intro w hS; clear hS; go_simp; rfl
                  · simp only [List.setIfInBounds_toArray, List.set_cons_succ, List.set_cons_zero]; rfl
                  refine wpAnyK_oneL (i := 11) (listed' := #[true, true, true, true, true, true, true, true, true, true, true, true, false, true, true, false]) (by kernel_rfl) rfl (by rfl) rfl ?_
                  intro K hK
                  go_simp
                  refine HSE.out.mono ?_
                  rintro e w3 ⟨rfl, hg3', ht3⟩
                  have hg3 := gb_trans (gb_drew wq (some s)) hg3' (fun _ e => .inl e)
                  have HT3 := Lib.hid ht3
                  have HM3 := Lib.hid (HMR.out.kept hg3 (fun k2 e2 => HOUT.out k2 e2))
                  have HG3 := Lib.hid (gb_new HGR.out hg3 HB.out.2.1)
                  have HS3 := Lib.hid (Nat.le_trans HSR.out hg3.size)
                  clear hg3 hg3' ht3 q0 q1 q2
                  obtain ⟨_, _, eo, q0, q1, q2⟩ := (HL.out.grown HG3.out).at HPK.out
                  cases eo
                  simp only at q0 q1 q2
                  refine hK _ _ (fun _ => ⟨q1, q2⟩) ?_
                  clear hK K
                  refine wpAnyK_oneL (i := 12) (listed' := #[true, true, true, true, true, true, true, true, true, true, true, true, true, true, true, false]) (by kernel_rfl) rfl (by rfl) rfl ?_
                  intro K hK
                  go_simp
                  refine hK _ _ (fun _ => ⟨q1, q2⟩) ?_
                  clear hK K
                  refine wpAnyK_oneL (i := 15) (listed' := #[true, true, true, true, true, true, true, true, true, true, true, true, true, true, true, true]) (by kernel_rfl) rfl (by rfl) rfl ?_
                  intro K hK
                  go_simp
                  refine hK _ _ (fun h => Bool.noConfusion (show true = false from h)) ?_
                  clear hK K
                  refine wpAnyK_done (by kernel_rfl) ?_ _
                  go_wp2
                  have HT4 := HT3
                  have HM4 := HM3
                  have HP4 : Hid (m.Perm (pairsL (setL ls hd val))) := Lib.hid (by rw [setL_none val HF.out]; exact HP.out)
                  have HG4 := HG3
                  have HS4 := HS3
                  have HK4 : Hid (m.length ≤ k + 1) := Lib.hid (by omega)
                  go_wp2
                  all_goals go_meet
                  all_goals exact ⟨setL ls hd val, m, HT4, HM4, HP4, HG4, HS4, HK4, HOKM, Lib.hid (fun e => absurd e (by first | omega | assumption))⟩
                · obtain ⟨fi, hfi⟩ := map_some HP.out (List.mem_of_getElem? hma)
                  have HF := Lib.hid hfi
                  have HMA := Lib.hid hma
                  clear hfi hma
                  have hse := set_any (HTR.out.grown (gb_drew _ _)) hd val HOK.out.2.1 HOK.out.2.2
                  have her : errF ls hd = 0 := by unfold errF; rw [HF.out]
                  rw [her] at hse
                  have HSE := Lib.hid hse
                  have HS0 : wq.drew.cell? ⟨gb, off + k * 3 + 1, none⟩ = some (.int .i64 hd) ∧ wq.drew.cell? ⟨gb, off + k * 3 + 2, none⟩ = some (.int .i64 val) := ⟨(gb_drew wq none).cell q1 (by simp), (gb_drew wq none).cell q2 (by simp)⟩
                  clear hse her
                  go_wp2_with fail
                  refine region_KL (fuel := 16) (listed := #[false, false, false, false, false, false, false, false, false, false, false, false, false, false, false, false]) (fun X => X.cell? ⟨gb, off + k * 3 + 1, none⟩ = some (.int .i64 hd) ∧ X.cell? ⟨gb, off + k * 3 + 2, none⟩ = some (.int .i64 val)) 15 (by kernel_rfl) rfl (by kernel_rfl) ?_
                  refine wpAnyK_takeL (i := 0) (d := 102) (v := ?_) (T' := ?_) (listed' := #[true, false, false, false, false, false, false, false, false, false, false, false, false, false, false, false]) rfl rfl (by kernel_rfl) (fun _ _ _ h => h) rfl (Or.inl ⟨by rfl, ?_⟩) ?_ HS0 ?_
                  rotate_left 2
                  · intro w hS; clear hS; go_simp; rfl
                  · simp only [List.setIfInBounds_toArray, List.set_cons_succ, List.set_cons_zero]; rfl
                  refine wpAnyK_takeL (i := 1) (d := 103) (v := ?_) (T' := ?_) (listed' := #[true, true, false, false, false, false, false, false, false, false, false, false, false, false, false, false]) rfl rfl (by kernel_rfl) (fun _ _ _ h => h) rfl (Or.inl ⟨by rfl, ?_⟩) ?_ HS0 ?_
                  rotate_left 2
                  · intro w hS; clear hS; go_simp; rfl
                  · simp only [List.setIfInBounds_toArray, List.set_cons_succ, List.set_cons_zero]; rfl
                  refine wpAnyK_takeL (i := 2) (d := 104) (v := ?_) (T' := ?_) (listed' := #[true, true, true, false, false, false, false, false, false, false, false, false, false, false, false, false]) rfl rfl (by kernel_rfl) (fun _ _ _ h => h) rfl (Or.inl ⟨by rfl, ?_⟩) ?_ HS0 ?_
                  rotate_left 2
                  · intro w hS; clear hS; go_simp; rfl
                  · simp only [List.setIfInBounds_toArray, List.set_cons_succ, List.set_cons_zero]; rfl
                  refine wpAnyK_takeL (i := 3) (d := 105) (v := ?_) (T' := ?_) (listed' := #[true, true, true, true, false, false, false, false, false, false, false, false, false, false, false, false]) rfl rfl (by kernel_rfl) (fun _ _ _ h => h) rfl (Or.inl ⟨by rfl, ?_⟩) ?_ HS0 ?_
                  rotate_left 2
                  · intro w hS; clear hS; go_simp; rfl
                  · simp only [List.setIfInBounds_toArray, List.set_cons_succ, List.set_cons_zero]; rfl
                  refine wpAnyK_takeL (i := 4) (d := 106) (v := ?_) (T' := ?_) (listed' := #[true, true, true, true, true, false, false, false, false, false, false, false, false, false, false, false]) rfl rfl (by kernel_rfl) (fun _ _ _ h => h) rfl (Or.inl ⟨by rfl, ?_⟩) ?_ HS0 ?_
                  rotate_left 2
                  · intro w hS; clear hS; go_simp; rfl
                  · simp only [List.setIfInBounds_toArray, List.set_cons_succ, List.set_cons_zero]; rfl
                  refine wpAnyK_takeL (i := 5) (d := 107) (v := ?_) (T' := ?_) (listed' := #[true, true, true, true, true, true, false, false, false, false, false, false, false, false, false, false]) rfl rfl (by kernel_rfl) (fun _ _ _ h => h) rfl (Or.inl ⟨by rfl, ?_⟩) ?_ HS0 ?_
                  rotate_left 2
                  · intro w hS; have t0 := hS.1; clear hS; go_simp; rfl
                  · simp only [List.setIfInBounds_toArray, List.set_cons_succ, List.set_cons_zero]; rfl
                  refine wpAnyK_takeL (i := 6) (d := 108) (v := ?_) (T' := ?_) (listed' := #[true, true, true, true, true, true, true, false, false, false, false, false, false, false, false, false]) rfl rfl (by kernel_rfl) (fun _ _ _ h => h) rfl (Or.inl ⟨by rfl, ?_⟩) ?_ HS0 ?_
                  rotate_left 2
                  · intro w hS; clear hS; go_simp; rfl
                  · simp only [List.setIfInBounds_toArray, List.set_cons_succ, List.set_cons_zero]; rfl
                  refine wpAnyK_takeL (i := 7) (d := 109) (v := ?_) (T' := ?_) (listed' := #[true, true, true, true, true, true, true, true, false, false, false, false, false, false, false, false]) rfl rfl (by kernel_rfl) (fun _ _ _ h => h) rfl (Or.inl ⟨by rfl, ?_⟩) ?_ HS0 ?_
                  rotate_left 2
                  · intro w hS; clear hS; go_simp; rfl
                  · simp only [List.setIfInBounds_toArray, List.set_cons_succ, List.set_cons_zero]; rfl
                  refine wpAnyK_takeL (i := 8) (d := 110) (v := ?_) (T' := ?_) (listed' := #[true, true, true, true, true, true, true, true, true, false, false, false, false, false, false, false]) rfl rfl (by kernel_rfl) (fun _ _ _ h => h) rfl (Or.inl ⟨by rfl, ?_⟩) ?_ HS0 ?_
                  rotate_left 2
                  · intro w hS; clear hS; go_simp; rfl
                  · simp only [List.setIfInBounds_toArray, List.set_cons_succ, List.set_cons_zero]; rfl
                  refine wpAnyK_takeL (i := 9) (d := 111) (v := ?_) (T' := ?_) (listed' := #[true, true, true, true, true, true, true, true, true, true, false, false, false, false, false, false]) rfl rfl (by kernel_rfl) (fun _ _ _ h => h) rfl (Or.inl ⟨by rfl, ?_⟩) ?_ HS0 ?_
                  rotate_left 2
                  · intro w hS; clear hS; go_simp; rfl
                  · simp only [List.setIfInBounds_toArray, List.set_cons_succ, List.set_cons_zero]; rfl
                  refine wpAnyK_takeL (i := 10) (d := 112) (v := ?_) (T' := ?_) (listed' := #[true, true, true, true, true, true, true, true, true, true, true, false, false, false, false, false]) rfl rfl (by kernel_rfl) (fun _ _ _ h => h) rfl (Or.inl ⟨by rfl, ?_⟩) ?_ HS0 ?_
                  rotate_left 2
                  · intro w hS; have t1 := hS.2; clear hS; go_simp; rfl
                  · simp only [List.setIfInBounds_toArray, List.set_cons_succ, List.set_cons_zero]; rfl
                  refine wpAnyK_takeL (i := 13) (d := 115) (v := ?_) (T' := ?_) (listed' := #[true, true, true, true, true, true, true, true, true, true, true, false, false, true, false, false]) rfl rfl (by kernel_rfl) (fun _ _ _ h => h) rfl (Or.inl ⟨by rfl, ?_⟩) ?_ HS0 ?_
                  rotate_left 2
                  · intro w hS; clear hS; go_simp; rfl
                  · simp only [List.setIfInBounds_toArray, List.set_cons_succ, List.set_cons_zero]; rfl
                  refine wpAnyK_takeL (i := 14) (d := 116) (v := ?_) (T' := ?_) (listed' := #[true, true, true, true, true, true, true, true, true, true, true, false, false, true, true, false]) rfl rfl (by kernel_rfl) (fun _ _ _ h => h) rfl (Or.inl ⟨by rfl, ?_⟩) ?_ HS0 ?_
                  rotate_left 2
                  · intro w hS; clear hS; go_simp; rfl
                  · simp only [List.setIfInBounds_toArray, List.set_cons_succ, List.set_cons_zero]; rfl
                  refine wpAnyK_oneL (i := 11) (listed' := #[true, true, true, true, true, true, true, true, true, true, true, true, false, true, true, false]) (by kernel_rfl) rfl (by rfl) rfl ?_
                  intro K hK
                  go_simp
                  refine HSE.out.mono ?_
                  rintro e w3 ⟨rfl, hg3', ht3⟩
                  have hg3 := gb_trans (gb_drew wq (some s)) hg3' (fun _ e => .inl e)
                  have HT3 := Lib.hid ht3
                  have HM3 := Lib.hid (HMR.out.kept hg3 (fun k2 e2 => HOUT.out k2 e2))
                  have HG3 := Lib.hid (gb_new HGR.out hg3 HB.out.2.1)
                  have HS3 := Lib.hid (Nat.le_trans HSR.out hg3.size)
                  clear hg3 hg3' ht3 q0 q1 q2
                  obtain ⟨_, _, eo, q0, q1, q2⟩ := (HL.out.grown HG3.out).at HPK.out
                  cases eo
                  simp only at q0 q1 q2
                  refine hK _ _ (fun _ => ⟨q1, q2⟩) ?_
                  clear hK K
                  refine wpAnyK_oneL (i := 12) (listed' := #[true, true, true, true, true, true, true, true, true, true, true, true, true, true, true, false]) (by kernel_rfl) rfl (by rfl) rfl ?_
                  intro K hK
                  go_simp
                  refine hK _ _ (fun _ => ⟨q1, q2⟩) ?_
                  clear hK K
                  refine wpAnyK_oneL (i := 15) (listed' := #[true, true, true, true, true, true, true, true, true, true, true, true, true, true, true, true]) (by kernel_rfl) rfl (by rfl) rfl ?_
                  intro K hK
                  go_simp
                  refine hK _ _ (fun h => Bool.noConfusion (show true = false from h)) ?_
                  clear hK K
                  refine wpAnyK_done (by kernel_rfl) ?_ _
                  obtain ⟨gm, rfl, r0, r1, r2, hgm⟩ := HM3.out.at HMA.out
                  have HGM := Lib.hid hgm
                  clear hgm
                  have HM4 := Lib.hid (HM3.out.set rfl val HMA.out)
                  have hgs := gb_setCell w3 ⟨gm, ia * 2 + 1, none⟩ (.int .i64 val)
                  have HT4 := Lib.hid (HT3.out.kept hgs (by have := HGM.out; have := HB.out.2.2.1; simp; omega) (by have := HGM.out; have := HB.out.2.2.2; simp; omega))
                  have HG4 := Lib.hid (gb_trans HG3.out hgs (fun k2 e => .inr (by have := HGM.out; have := HG2.out.size; simp at e; omega)))
                  have HS4 := Lib.hid (Nat.le_trans HS3.out hgs.size)
                  have HP4 := Lib.hid (map_set (y := val) HP.out HMA.out)
                  have HK4 : Hid ((m.set ia (hd, val)).length ≤ k + 1) := Lib.hid (by rw [List.length_set]; omega)
                  have HOKM2 : Hid (∀ p ∈ m.set ia (hd, val), OkI p.1) := Lib.hid (by
                    intro p hp
                    rcases List.mem_or_eq_of_mem_set hp with h | h
                    · exact HOKM.out p h
                    · rw [h]; exact HOK.out.2.1)
                  have HOKM := HOKM2
                  have hml : ia < m.length := hia
                  clear hgs HOKM2
                  go_wp2
                  all_goals go_meet
                  all_goals exact ⟨setL ls hd val, m.set ia (hd, val), HT4, HM4, HP4, HG4, HS4, HK4, HOKM, Lib.hid (fun e => absurd e (by first | omega | assumption))⟩
              · have h2' : (kind == 2) = false := by simpa using h2
                by_cases h3 : kind = 3
                · subst h3
                  clear h0 h0' h2 h2'
                  rcases HAT.out with ⟨rfl, hno⟩ | ⟨ia, va, hia, rfl, hma⟩
                  · rw [List.take_of_length_le (Nat.le_refl _)] at hno
                    have hfn := map_none HP.out hno
                    have HF := Lib.hid hfn
                    clear hfn hno
                    have hdr := drop_any HTR.out hd HOK.out.2.1
                    have her : errF ls hd = 8 := by unfold errF; rw [HF.out]
                    rw [her] at hdr
                    have HDR := Lib.hid hdr
                    clear hdr her q2
                    go_wp2_with fail
                    refine HDR.out.mono ?_
                    rintro e w3 ⟨rfl, hg3, ht3⟩
                    have HT3 := Lib.hid ht3
                    have HM3 := Lib.hid (HMR.out.kept hg3 (fun k2 e2 => HOUT.out k2 e2))
                    have HG3 := Lib.hid (gb_new HGR.out hg3 HB.out.2.1)
                    have HS3 := Lib.hid (Nat.le_trans HSR.out hg3.size)
                    clear hg3 ht3 q0 q1
                    obtain ⟨_, _, eo, q0, q1, q2⟩ := (HL.out.grown HG3.out).at HPK.out
                    cases eo
                    simp only at q0 q1 q2
                    have HT4 := HT3
                    have HM4 := HM3
                    have HP4 : Hid (m.Perm (pairsL (dropL ls hd))) := Lib.hid (by rw [dropL_none HF.out]; exact HP.out)
                    have HG4 := HG3
                    have HS4 := HS3
                    have HK4 : Hid (m.length ≤ k + 1) := Lib.hid (by omega)
                    have HGB0 : Hid (getB (dropL ls hd) hd = false) := Lib.hid (by rw [dropL_none HF.out]; unfold getB; rw [HF.out]; rfl)
                    go_wp2
                    all_goals go_meet
                    all_goals exact ⟨dropL ls hd, m, HT4, HM4, HP4, HG4, HS4, HK4, HOKM, Lib.hid (fun _ => HGB0.out)⟩
                  · obtain ⟨fi, hfi⟩ := map_some HP.out (List.mem_of_getElem? hma)
                    have HF := Lib.hid hfi
                    have HMA := Lib.hid hma
                    clear hfi hma
                    have hdr := drop_any HTR.out hd HOK.out.2.1
                    have her : errF ls hd = 0 := by unfold errF; rw [HF.out]
                    rw [her] at hdr
                    have HDR := Lib.hid hdr
                    clear hdr her q2
                    go_wp2_with fail
                    refine HDR.out.mono ?_
                    rintro e w3 ⟨rfl, hg3, ht3⟩
                    have HT3 := Lib.hid ht3
                    have HM3 := Lib.hid (HMR.out.kept hg3 (fun k2 e2 => HOUT.out k2 e2))
                    have HG3 := Lib.hid (gb_new HGR.out hg3 HB.out.2.1)
                    have HS3 := Lib.hid (Nat.le_trans HSR.out hg3.size)
                    clear hg3 ht3 q0 q1
                    obtain ⟨gm, rfl, _, _, _, hgm⟩ := HM3.out.at HMA.out
                    have HS0 : True := trivial
                    have hicm : ia ≤ cm := by have := HCM.out; omega
                    have hwr : IntKind.i64.wrap ((ia : Int) + 1) = (ia : Int) + 1 := by rw [IntKind.wrap_i64]; omega
                    have hwr0 : 0 ≤ (ia : Int) + 1 := by omega
                    have hwr1 : (ia : Int) + 1 ≤ (m.length : Int) := by omega
                    have hi3 : m.length ≤ cm := HCM.out
                    have hc0 : ¬ cm = 0 := by omega
                    go_wp2_with fail
                    refine region_KL (fuel := 11) (listed := #[false, false, false, false, false, false, false, false, false, false, false]) (fun _ => True) 9 (by kernel_rfl) rfl (by kernel_rfl) ?_
                    refine wpAnyK_takeL (i := 1) (d := 145) (v := ?_) (T' := ?_) (listed' := #[false, true, false, false, false, false, false, false, false, false, false]) rfl rfl (by kernel_rfl) (fun _ _ _ h => h) rfl (Or.inl ⟨by rfl, ?_⟩) ?_ HS0 ?_
                    rotate_left 2
                    · intro w hS; clear hS; go_simp; rfl
                    · simp only [List.setIfInBounds_toArray, List.set_cons_succ, List.set_cons_zero]; rfl
                    refine wpAnyK_takeL (i := 2) (d := 146) (v := ?_) (T' := ?_) (listed' := #[false, true, true, false, false, false, false, false, false, false, false]) rfl rfl (by kernel_rfl) (fun _ _ _ h => h) rfl (Or.inl ⟨by rfl, ?_⟩) ?_ HS0 ?_
                    rotate_left 2
                    · intro w hS; clear hS; go_simp; rfl
                    · simp only [List.setIfInBounds_toArray, List.set_cons_succ, List.set_cons_zero]; rfl
                    refine wpAnyK_takeL (i := 3) (d := 147) (v := ?_) (T' := ?_) (listed' := #[false, true, true, true, false, false, false, false, false, false, false]) rfl rfl (by kernel_rfl) (fun _ _ _ h => h) rfl (Or.inl ⟨by rfl, ?_⟩) ?_ HS0 ?_
                    rotate_left 2
                    · intro w hS; clear hS; go_simp; rfl
                    · simp only [List.setIfInBounds_toArray, List.set_cons_succ, List.set_cons_zero]; rfl
                    refine wpAnyK_takeL (i := 5) (d := 149) (v := ?_) (T' := ?_) (listed' := #[false, true, true, true, false, true, false, false, false, false, false]) rfl rfl (by kernel_rfl) (fun _ _ _ h => h) rfl (Or.inl ⟨by rfl, ?_⟩) ?_ HS0 ?_
                    rotate_left 2
                    · intro w hS; clear hS; go_simp; rfl
                    · simp only [List.setIfInBounds_toArray, List.set_cons_succ, List.set_cons_zero]; rfl
                    refine wpAnyK_takeL (i := 6) (d := 150) (v := ?_) (T' := ?_) (listed' := #[false, true, true, true, false, true, true, false, false, false, false]) rfl rfl (by kernel_rfl) (fun _ _ _ h => h) rfl (Or.inl ⟨by rfl, ?_⟩) ?_ HS0 ?_
                    rotate_left 2
                    · intro w hS; clear hS; go_simp; rfl
                    · simp only [List.setIfInBounds_toArray, List.set_cons_succ, List.set_cons_zero]; rfl
                    refine wpAnyK_takeL (i := 7) (d := 151) (v := ?_) (T' := ?_) (listed' := #[false, true, true, true, false, true, true, true, false, false, false]) rfl rfl (by kernel_rfl) (fun _ _ _ h => h) rfl (Or.inl ⟨by rfl, ?_⟩) ?_ HS0 ?_
                    rotate_left 2
                    · intro w hS; clear hS; go_simp; rfl
                    · simp only [List.setIfInBounds_toArray, List.set_cons_succ, List.set_cons_zero]; rfl
                    refine wpAnyK_takeL (i := 8) (d := 152) (v := ?_) (T' := ?_) (listed' := #[false, true, true, true, false, true, true, true, true, false, false]) rfl rfl (by kernel_rfl) (fun _ _ _ h => h) rfl (Or.inl ⟨by rfl, ?_⟩) ?_ HS0 ?_
                    rotate_left 2
                    · intro w hS; clear hS; go_simp; rfl
                    · simp only [List.setIfInBounds_toArray, List.set_cons_succ, List.set_cons_zero]; rfl
                    refine wpAnyK_oneL (i := 0) (listed' := #[true, true, true, true, false, true, true, true, true, false, false]) (by kernel_rfl) rfl (by rfl) rfl ?_
                    intro K hK
                    go_simp
                    obtain ⟨w4, hw4⟩ : ∃ w4, (w3.alloc (.cells #[] 58)).drew = w4 := ⟨_, rfl⟩
                    have HG34 : Hid (w3.grownBy w4 none) := Lib.hid (by rw [← hw4]; exact gb_same (gb_alloc _ _ _) (gb_drew _ _))
                    have HL34 : Hid (MRow w4 w2.heap.size (.slice (some ⟨w3.heap.size, 0, none⟩) 0 0) []) := Lib.hid (by rw [← hw4]; exact (MRow.lit0 w3 w2.heap.size HS3.out).grown (gb_drew _ _))
                    rw [hw4]
                    clear hw4
                    have HGL := Lib.hid (show gm < w3.heap.size from (World.ownsRow.lt HM3.out gm rfl).2)
                    refine hK _ _ (fun _ => trivial) ?_
                    clear hK K
                    refine wpAnyK_oneL (i := 4) (listed' := #[true, true, true, true, true, true, true, true, true, false, false]) (by kernel_rfl) rfl (by rfl) rfl ?_
                    intro K hK
                    refine app_pairs_op _ _ rfl w2.heap.size (.slice (some ⟨w3.heap.size, 0, none⟩) 0 0) (.slice (some ⟨gm, 0, none⟩) ia cm) [] (m.take ia) rfl rfl HL34.out ((HM3.out.grown HG34.out).rd.take (by omega)) (by simp; omega) (Nat.le_trans HS3.out HG34.out.size) ?_
                    intro v5 w5 h5 hg5 hf5
                    rw [List.nil_append] at h5
                    have HM5 := Lib.hid h5
                    have HG35 : Hid (w3.grownBy w5 none) := Lib.hid (gb_trans HG34.out hg5 (fun k2 e => .inr (by simp [Value.ownBlock] at e; omega)))
                    have HF5 : Hid (∀ k2, v5.ownBlock = some k2 → w3.heap.size ≤ k2) := Lib.hid (fun k2 e => by
                      rcases hf5 k2 e with h | h
                      · simp [Value.ownBlock] at h; omega
                      · have := HG34.out.size; omega)
                    clear h5 hg5 hf5
                    refine hK _ _ (fun _ => trivial) ?_
                    clear hK K
                    refine wpAnyK_oneL (i := 9) (listed' := #[true, true, true, true, true, true, true, true, true, true, false]) (by kernel_rfl) rfl (by rfl) rfl ?_
                    intro K hK
                    refine app_pairs_op _ _ rfl w2.heap.size v5 (.slice (if cm = ia + 1 then some ⟨gm, 0, none⟩ else some ⟨gm, (ia + 1) * 2, none⟩) (m.length - (ia + 1)) (cm - (ia + 1))) (m.take ia) (m.drop (ia + 1)) rfl rfl HM5.out (RdP.kept (drop_rd HM3.out.rd rfl HCM.out) HG35.out (by simp)) (by simp; omega) (Nat.le_trans HS3.out HG35.out.size) ?_
                    intro v6 w6 h6 hg6 hf6
                    have HM4 := Lib.hid h6
                    have HG36 : Hid (w3.grownBy w6 none) := Lib.hid (gb_trans HG35.out hg6 (fun k2 e => .inr (HF5.out k2 e)))
                    clear h6 hg6 hf6
                    refine hK _ _ (fun h => Bool.noConfusion (show true = false from h)) ?_
                    clear hK K
                    refine wpAnyK_oneL (i := 10) (listed' := #[true, true, true, true, true, true, true, true, true, true, true]) (by kernel_rfl) rfl (by rfl) rfl ?_
                    intro K hK
                    go_simp
                    refine hK _ _ (fun h => Bool.noConfusion (show true = false from h)) ?_
                    clear hK K
                    refine wpAnyK_done (by kernel_rfl) ?_ _
                    have HT4 := Lib.hid (HT3.out.grown HG36.out)
                    have HG4 := Lib.hid (gb_same HG3.out HG36.out)
                    have HS4 := Lib.hid (Nat.le_trans HS3.out HG36.out.size)
                    have HP4 := Lib.hid (map_drop HP.out HMA.out)
                    have HK4 : Hid ((m.take ia ++ m.drop (ia + 1)).length ≤ k + 1) := Lib.hid (by simp; omega)
                    have HOKM2 : Hid (∀ p ∈ m.take ia ++ m.drop (ia + 1), OkI p.1) := Lib.hid (by
                      intro p hp
                      rcases List.mem_append.1 hp with h | h
                      · exact HOKM.out p (List.mem_of_mem_take h)
                      · exact HOKM.out p (List.mem_of_mem_drop h))
                    have HOKM := HOKM2
                    have HGB0 : Hid (getB (dropL ls hd) hd = false) := Lib.hid (get_drop HF.out)
                    clear HOKM2
                    go_wp2
                    all_goals go_meet
                    all_goals exact ⟨dropL ls hd, m.take ia ++ m.drop (ia + 1), HT4, HM4, HP4, HG4, HS4, HK4, HOKM, Lib.hid (fun _ => HGB0.out)⟩
                · have h3' : (kind == 3) = false := by simpa using h3
                  clear h0 h2
                  have HT4 := HTR
                  have HM4 := HMR
                  have HP4 := HP
                  have HG4 := HGR
                  have HS4 := HSR
                  have HK4 : Hid (m.length ≤ k + 1) := Lib.hid (by omega)
                  go_wp2
                  all_goals go_meet
                  all_goals exact ⟨ls, m, HT4, HM4, HP4, HG4, HS4, HK4, HOKM, Lib.hid (fun e => absurd e (by first | omega | assumption))⟩
          case rest =>
            obtain ⟨L, M, HT4, HM4, HP4, HG4, HS4, HK4, HOKM4, HKD⟩ := hcut
            have HHA := Lib.hid (handles_any HT4.out)
            have HLN := Lib.hid (map_len HP4.out)
            obtain ⟨am2, cm2, hvm, _, _⟩ := HM4.out.len
            subst hvm
            generalize hsN L L.length = hs at HHA HLN
            clear q0 q1 q2
            go_wp2_with fail
            refine HHA.out.mono ?_
            rintro e w5 ⟨v9, rfl, ho9, hg9⟩
            obtain ⟨a9, c9, rfl⟩ := ho9.len
            have hl9 : hs.length = M.length := HLN.out
            rw [hl9]
            have HT5 := Lib.hid (HT4.out.grown hg9)
            have HM5 := Lib.hid (HM4.out.grown hg9)
            have HG5 := Lib.hid (gb_same HG4.out hg9)
            have HS5 := Lib.hid (Nat.le_trans HS4.out hg9.size)
            clear ho9 hg9 hl9
            go_wp2
            go_loopw [13] (fun j wr => ∃ t : Nat, t ≤ M.length ∧ j = .int .i64 t ∧ Hid (w5.grownBy wr none)) (fun j _ => M.length - (intOf j).toNat)
            case atStart => exact ⟨0, Nat.zero_le _, rfl, Lib.hid (gb_refl _ _)⟩
            case round =>
              obtain ⟨t, ht, rfl, HJ⟩ := hrel
              have hml60 := HK4.out
              by_cases htl : t < M.length
              · obtain ⟨pp, hpp⟩ : ∃ pp, M[t]? = some pp := ⟨_, List.getElem?_eq_getElem htl⟩
                obtain ⟨ph, pv⟩ := pp
                have hmp := mem_pairs (HP4.out.mem_iff.1 (List.mem_of_getElem? hpp))
                have hok : OkI ph := HOKM4.out _ (List.mem_of_getElem? hpp)
                have hge := get_any (HT5.out.grown HJ.out) ph hok
                rw [hmp.1, hmp.2] at hge
                have HGE := Lib.hid hge
                obtain ⟨gm2, egm, r0, r1, _, _⟩ := (HM5.out.grown HJ.out).at hpp
                cases egm
                have HR1 := Lib.hid r1
                simp only at r0 r1
                clear hge hmp hpp hok
                go_wp2_with fail
                refine HGE.out.mono ?_
                rintro e w6 ⟨rfl, hg6⟩
                have r1' := hg6.cell HR1.out (by simp)
                have HJ6 := Lib.hid (gb_same HJ.out hg6)
                clear hg6 r0 r1
                go_wp2
                go_roundw
                case rel => exact ⟨t + 1, by omega, by go_num, HJ6⟩
                case measure => simp [intOf]; omega
              · obtain rfl : t = M.length := by omega
                obtain ⟨_, _, eo, q0, q1, q2⟩ := (HL.out.grown (gb_same HG5.out HJ.out)).at HPK.out
                cases eo
                simp only at q0 q1 q2
                have HGE := Lib.hid (get_any (HT5.out.grown HJ.out) hd HOK.out.2.1)
                have HQ0 := Lib.hid q0
                clear htl q2
                by_cases h3 : kind = 3
                · subst h3
                  rw [HKD.out rfl] at HGE
                  go_wp2_with fail
                  refine HGE.out.mono ?_
                  rintro e w6 ⟨rfl, hg6⟩
                  have q0' := hg6.cell HQ0.out (by simp)
                  have HG6 := Lib.hid (gb_same HG5.out (gb_same HJ.out hg6))
                  have HT6 := Lib.hid (HT5.out.grown (gb_same HJ.out hg6))
                  have HM6 := Lib.hid (HM5.out.grown (gb_same HJ.out hg6))
                  have HS6 := Lib.hid (Nat.le_trans HS5.out (Nat.le_trans HJ.out.size hg6.size))
                  clear hg6 q0 q1
                  go_wp2
                  go_roundw
                  case rel => exact ⟨k + 1, L, M, by omega, by go_num, HK4.out, HT6, HM6, HP4, HOKM4, HG6, HS6⟩
                  case measure => simp [intOf]; omega
                · have h3' : (kind == 3) = false := by simpa using h3
                  clear h3
                  go_wp2_with fail
                  refine HGE.out.mono ?_
                  rintro e w6 ⟨rfl, hg6⟩
                  have q0' := hg6.cell HQ0.out (by simp)
                  have HG6 := Lib.hid (gb_same HG5.out (gb_same HJ.out hg6))
                  have HT6 := Lib.hid (HT5.out.grown (gb_same HJ.out hg6))
                  have HM6 := Lib.hid (HM5.out.grown (gb_same HJ.out hg6))
                  have HS6 := Lib.hid (Nat.le_trans HS5.out (Nat.le_trans HJ.out.size hg6.size))
                  clear hg6 q0 q1
                  go_wp2
                  go_roundw
                  case rel => exact ⟨k + 1, L, M, by omega, by go_num, HK4.out, HT6, HM6, HP4, HOKM4, HG6, HS6⟩
                  case measure => simp [intOf]; omega
    · obtain rfl : k = ps.length := by omega
      clear hlt
      go_wp2
      go_ret
      exact ⟨rfl, HG.out⟩
theorem slotsMap_any (lv : Value) (ps : List ST) (n : Int) (w : World) (hl : RdT w lv ps) (hps : ∀ p ∈ ps, OkT p) (hn : OkI n) : Calls Try.prog 8 #[lv, .int .i64 n] w (BoolQ true w) := by
  by_cases hbad : n < 1 ∨ (20 : Int) < n ∨ (60 : Int) < ps.length
  · exact slotsMap_small lv ps n w hl hn hbad
  · obtain ⟨N, rfl⟩ : ∃ N : Nat, n = (N : Int) := ⟨n.toNat, by omega⟩
    exact slotsMap_main lv ps N w hl hps (by omega) (by omega) (by omega)
end Go.Proofs.Ytjijiondinbmnaa
