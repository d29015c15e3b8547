/-
  slices.DeleteFunc of messages by their sender, Drop: the walks.
-/
import Derived.Test.YtfldooljmjeaoaaRDf
namespace Go.Proofs.Ytfldooljmjeaoaa
open Go.RowKit Go.Shelf

theorem row_one (m : Mg) (dv : Value) (h : dv.oneCell' = true) : (m.row dv).toList.all (·.oneCell') = true := by
  unfold Mg.row
  simp only [List.all_cons, List.all_nil, h]
  rfl
set_option maxRecDepth 100000 in
set_option maxHeartbeats 4000000 in
theorem delF_any (v : Value) (B : Nat) (ps : List GP) (s : Nat) (x : Int) (w : World) (h : GRow w B v ps) (h1 : ∀ p ∈ ps, p.2.oneCell' = true) (hs : w.cell? ⟨s, 0, none⟩ = some (.int .i64 x)) (hsv : v.ownBlock ≠ some s) (hps : ps.length ≤ 1000000) :
    Calls Try.prog 36 #[v, delV s] w (DelM w B v (keepM ps x)) := by
  have HI := Lib.hid (idxM_any v B ps s x w h hs)
  obtain ⟨a, c, rfl, hnc0, hcm⟩ := h.slice
  obtain ⟨n, hn⟩ : ∃ n, ps.length = n := ⟨_, rfl⟩
  have H := Lib.hid h
  have H1 := Lib.hid h1
  rw [hn] at HI H hnc0 hps hsv ⊢
  have HS := Lib.hid hs
  have HN := Lib.hid hn
  have HNC := Lib.hid hnc0
  have hcm' : (c : Int) ≤ 9223372036854775807 := by simp only [maxLen] at hcm; omega
  clear h h1 hs hn
  go_enter Try.func36, Try.ntmps36
  go_wp2_with fail
  refine HI.out.mono ?_
  rintro e w1 ⟨hg1, ⟨rfl, hall⟩ | ⟨i, p, rfl, hp, hpx, hno⟩⟩
  · have HA := Lib.hid (keepM_all hall)
    have HG1 := Lib.hid hg1
    clear hg1 hall
    go_wp2
    go_ret
    exact ⟨_, rfl, by rw [HA.out]; exact H.out.grown HG1.out, gb_trans (gb_refl _ _) HG1.out (fun j e => by cases e), rfl⟩
  · have ha : ∃ g, a = some ⟨g, 0, none⟩ := by
      obtain ⟨b, h1, _⟩ := H.out.at hp
      exact ⟨b, h1⟩
    obtain ⟨g, rfl⟩ := ha
    have hin : i < n := by rw [← HN.out]; exact (List.getElem?_eq_some_iff.1 hp).1
    obtain ⟨cur, hc1, hc2, hc3, hBg, _, _⟩ := (H.out.grown hg1).cur HN.out
    have HBG := Lib.hid hBg
    have HA0 : Hid (AtF w1 g n c ps x i (i + 1) cur) := Lib.hid (by
      have e1 := keepM_take x hp
      rw [if_pos hpx, List.append_nil, keepM_all hno] at e1
      refine ⟨hc1, hc2, ?_, ?_, by rw [e1, List.length_take, HN.out]; omega⟩
      · rw [e1, cellsG_take, ← hc3, List.take_take, Nat.min_eq_left (by omega)]
      · rw [hc3, cellsG_drop])
    have HG1 : Hid (w.grownBy w1 (some g)) := Lib.hid (gb_trans (gb_refl _ _) hg1 (fun j e => by cases e))
    have hSG : s ≠ g := fun e => hsv (by rw [e]; rfl)
    have HSG := Lib.hid hSG
    have HS1 := Lib.hid (hg1.cell HS.out (by simp))
    have hi1 : ((i : Int) == -1) = false := by rw [beq_eq_false_iff_ne]; omega
    have hwi : IntKind.i64.wrap ((i : Int) + 1) = ((i + 1 : Nat) : Int) := by rw [IntKind.wrap_i64] <;> omega
    have hns : (n : Int) ≤ 1000000 := by omega
    clear hg1 hpx hno hc1 hc2 hc3 hBg hp hsv hcm
    go_wp2_with fail
    go_loopw [5, 6] (fun u5 u6 wr => ∃ (kk j : Nat) (cu : Array Value), kk < j ∧ j ≤ n ∧ u5 = .int .i64 kk ∧ u6 = .int .i64 j ∧ Hid (AtF wr g n c ps x kk j cu) ∧ Hid (w.grownBy wr (some g)) ∧ Hid (wr.cell? ⟨s, 0, none⟩ = some (.int .i64 x))) (fun _ u6 _ => n - (intOf u6).toNat)
    case atStart => exact ⟨i, i + 1, cur, by omega, by omega, rfl, by go_num, HA0, HG1, HS1⟩
    case round =>
      obtain ⟨kk, j, cu, hkj, hjn, rfl, rfl, HA, HG, HSC⟩ := hrel
      by_cases hlt : j < n
      · obtain ⟨q, hq⟩ : ∃ q, ps[j]? = some q := ⟨ps[j]'(by rw [HN.out]; exact hlt), by simp⟩
        have hcc := fun d u hd => HA.out.cells hq HN.out d u hd
        have n0 := hcc 0 _ rfl
        have n1 := hcc 1 _ rfl
        have n2 := hcc 2 _ rfl
        have n3 := hcc 3 _ rfl
        have n4 := hcc 4 _ rfl
        have n5 := hcc 5 _ rfl
        have n6 := hcc 6 _ rfl
        have n7 := hcc 7 _ rfl
        have n8 := hcc 8 _ rfl
        have HQ := Lib.hid hq
        have HZB := Lib.hid (heap_at_alloc wr (.cells #[.int .i64 0, .int .i64 0, .int .i64 0, .int .i64 0, .int .i64 0, .int .i64 0, .int .i64 0, .int .i64 0, .slice none 0 0] 39))
        have HGZ := Lib.hid (gb_alloc wr (.cells #[.int .i64 0, .int .i64 0, .int .i64 0, .int .i64 0, .int .i64 0, .int .i64 0, .int .i64 0, .int .i64 0, .slice none 0 0] 39) none)
        have HO := Lib.hid (H1.out q (List.mem_of_getElem? hq))
        clear hcc hq
        rw [Nat.add_zero] at n0
        go_wp2_with (first | ((with_reducible refine is_store 39 7 25 ?_); go_must (refine st_row 39 7 25 wr.heap.size _ (q.1.row q.2) _ rfl rfl HZB.out msize rfl (row_one _ _ HO.out) ?_; intro w2 hb2 hg2; have HB2 := Lib.hid hb2; have HG2 := Lib.hid hg2; clear hb2 hg2)) | ((with_reducible refine is_load 39 27 7 ?_); go_must (refine ld_row 39 27 7 wr.heap.size _ _ rfl HB2.out Try.underlying39 msize ?_)))
        clear n0 n1 n2 n3 n4 n5 n6 n7 n8
        have HGW2 := Lib.hid (gb_new HGZ.out HG2.out (Nat.le_refl _))
        have HA2 := Lib.hid (HA.out.grown HGW2.out (by simp))
        have HGG2 := Lib.hid (gb_trans HG.out HGW2.out (fun j e => by cases e))
        have HSC2 := Lib.hid (HGW2.out.cell HSC.out (by simp))
        refine (isrc_any q.1 q.2 s x w2 HSC2.out).mono ?_
        rintro e w3 ⟨rfl, hg3⟩
        have HA3 := Lib.hid (HA2.out.grown hg3 (by simp))
        have HGG3 := Lib.hid (gb_trans HGG2.out hg3 (fun j e => by cases e))
        have HSC3 := Lib.hid (hg3.cell HSC2.out (by simp))
        have HB3 := Lib.hid (blk_kept HB2.out hg3)
        clear hg3
        by_cases hx : q.1.s = x
        · have hb : (q.1.s == x) = true := by rw [beq_iff_eq]; exact hx
          rw [hb]
          have HA4 := Lib.hid (HA3.out.skip HQ.out hx)
          clear hx hb
          go_wp2
          go_roundw
          case rel => exact ⟨kk, j + 1, cu, by omega, by omega, rfl, by go_num, HA4, HGG3, HSC3⟩
          case measure => simp [intOf]; omega
        · have hb : (q.1.s == x) = false := by rw [beq_eq_false_iff_ne]; exact hx
          rw [hb]
          have HA4 := Lib.hid (HA3.out.keep HQ.out hx hkj HN.out HNC.out)
          have HFIT : Hid (kk * 9 + 9 ≤ cu.size) := Lib.hid (by have := HA3.out.sz; have := HNC.out; omega)
          have HGG4 := Lib.hid (gb_trans HGG3.out (gb_setRow w3 g (cu.toList.take (kk * 9) ++ rowG q ++ cu.toList.drop (kk * 9 + (rowG q).length)).toArray) (fun k e => .inl e))
          have HSC4 : Hid ((w3.setRow g (cu.toList.take (kk * 9) ++ rowG q ++ cu.toList.drop (kk * 9 + (rowG q).length)).toArray).cell? ⟨s, 0, none⟩ = some (.int .i64 x)) := Lib.hid ((gb_setRow w3 g _).cell HSC3.out (by simp; exact HSG.out))
          have hkn : kk < n := by omega
          clear hx hb
          go_wp2_with (first | ((with_reducible refine is_load 39 32 7 ?_); go_must (refine ld_row 39 32 7 wr.heap.size _ _ rfl HB3.out Try.underlying39 msize ?_)) | ((with_reducible refine is_store 39 33 32 ?_); go_must (refine st_at 39 33 32 g (kk * 9) cu (q.1.row q.2) _ rfl rfl HA3.out.blk msize HFIT.out (row_one _ _ HO.out) ?_; intro w4 hw4; have HW4 := Lib.hid hw4; clear hw4)))
          have HA5 : Hid (AtF w4 g n c ps x (kk + 1) (j + 1) _) := Lib.hid (by rw [HW4.out]; exact HA4.out)
          have HGG5 : Hid (w.grownBy w4 (some g)) := Lib.hid (by rw [HW4.out]; exact HGG4.out)
          have HSC5 : Hid (w4.cell? ⟨s, 0, none⟩ = some (.int .i64 x)) := Lib.hid (by rw [HW4.out]; exact HSC4.out)
          go_roundw
          case rel => exact ⟨kk + 1, j + 1, _, by omega, by omega, by go_num, by go_num, HA5, HGG5, HSC5⟩
          case measure => simp [intOf]; omega
      · obtain rfl : j = n := by omega
        have hkc : kk < c := by have := HNC.out; omega
        have hkc' : (c = kk) = False := by simp; omega
        have hkn' : (kk : Int) ≤ (j : Int) := by omega
        have HSZ := Lib.hid HA.out.sz
        clear hlt
        go_wp2_with ((refine mclear_step rfl (.tmp 38) rfl g (kk * 9) (j - kk) (c - kk) rfl cu HA.out.blk (by omega) (by rw [HSZ.out]; have := HNC.out; omega) ?_); go_must (intro cs hc1 hc2; have HC1 := Lib.hid hc1; have HC2 := Lib.hid hc2; clear hc1 hc2))
        go_ret
        have hl := HA.out.len
        have hkp := HA.out.kept
        have htk : ps.take j = ps := List.take_of_length_le (by rw [HN.out]; exact Nat.le_refl _)
        rw [htk] at hl hkp
        refine ⟨.slice (some ⟨g, 0, none⟩) kk c, rfl, ?_, gb_trans HG.out (gb_setRow _ _ _) (fun k e => .inl e), rfl⟩
        exact ⟨by rw [cellsG_len], .inr ⟨g, c, cs, by rw [hl], HBG.out, setRow_heap wr g cu cs _ _ HA.out.blk, by rw [hl]; omega, by simp only [maxLen]; omega, by rw [HC1.out]; exact HSZ.out, by rw [hl, HC2.out]; exact hkp⟩⟩
def DropM (ps : List GP) (x : Int) (B g n : Nat) (v : Value) (w : World) (e : Ending) (w' : World) : Prop := ∃ v', e = .returned (.int .i64 ((ps.length - (keepM ps x).length : Nat) : Int)) ∧ IsM w' B g n v' (keepM ps x) ∧ KM w w' g v ∧ v'.ownBlock = v.ownBlock
set_option maxRecDepth 100000 in
set_option maxHeartbeats 4000000 in
theorem dropM_any {w : World} {B g n : Nat} {v : Value} {ps : List GP} (h : IsM w B g n v ps) (x : Int) : Calls Try.prog 18 #[.pointer (some ⟨g, 0, none⟩), .int .i64 x] w (DropM ps x B g n v w) := by
  have hq := h.grown (gb_alloc w (.cells #[.int .i64 x] 3) none)
  have hbx := heap_at_alloc w (.cells #[.int .i64 x] 3)
  have hcn := hq.cnt
  have hle := hq.le
  have HD := Lib.hid (delF_any v B ps w.heap.size x _ hq.row (fun p hp => (hq.data p hp).one) (cell_row (j := 0) hbx) (fun e => by have := (h.row.lt _ e).2; omega) (by omega))
  have HLE : Hid ((keepM ps x).length ≤ ps.length) := Lib.hid (List.length_filter_le _ _)
  have H := Lib.hid hq
  have HG := Lib.hid (gb_alloc w (.cells #[.int .i64 x] 3) none)
  have hc1 := hq.c1
  have hblk := hq.blk
  obtain ⟨a, c, rfl, _, _⟩ := hq.row.slice
  have hsm : (ps.length : Int) ≤ 200 := by omega
  clear h hq hbx hcn hle
  go_enter Try.func18, Try.ntmps18
  go_wp2_with fail
  refine HD.out.mono ?_
  rintro e w3 ⟨v3, rfl, hr3, hg3, hb3⟩
  obtain ⟨a3, c3, rfl, _, _⟩ := hr3.slice
  have HC := Lib.hid (H.out.cut hg3 hr3 hb3 (fun q hq => (List.mem_filter.1 hq).1) HLE.out)
  have hblk3 := blk_kept' hblk hg3 H.out.ne
  have hcc := (cell_row (j := 1) hblk3)
  have hfz := blk_frozen (j := 1) hblk3
  have HB3 := Lib.hid hb3
  have hc4 := HC.out.1.c1
  have hkl : ((keepM ps x).length : Int) ≤ (ps.length : Int) := by have := HLE.out; omega
  have hw : IntKind.i64.wrap ((ps.length : Int) - ((keepM ps x).length : Int)) = ((ps.length - (keepM ps x).length : Nat) : Int) := by rw [IntKind.wrap_i64] <;> omega
  obtain ⟨kl, hkl0⟩ : ∃ kl, (keepM ps x).length = kl := ⟨_, rfl⟩
  rw [hkl0] at HC hc4 hkl hw
  rw [hkl0]
  have HKL := Lib.hid hkl0
  clear hr3 hg3 hblk3 hblk hb3 hc1 hkl0
  go_wp2
  go_ret
  exact ⟨_, by rw [HKL.out]; rfl, HC.out.1, (KM.of HG.out (.inl rfl)).trans HC.out.2 (Fr.refl _ _), by rw [← HKL.out]; exact HB3.out⟩
end Go.Proofs.Ytfldooljmjeaoaa
