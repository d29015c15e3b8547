/-
  The reference's comparisons on equal values, data at any address: the walks.
-/
import Derived.Test.YtgfopepopcacmaaFewE
import Derived.Test.YtgfopepopcacmaaSameS
namespace Go.Proofs.Ytgfopepopcacmaa
open Go.RowKit

theorem run_toStringW (w : World) (v : Value) (l : List UInt8) (h : RdW w v l) :
    (convert 22 9 v).run Try.prog w = .ok (.string (str l)) w := by
  rcases h with h | ⟨a, rfl, rfl⟩
  · exact run_toString w v l h
  · have hl : (loadCells a 0).run Try.prog w = .ok (([] : List Int).map (Value.int .u8)).toArray w := by
      have := run_loadCells_list (P := Try.prog) w a [] (fun j v hj => by simp at hj)
      simpa using this
    rw [run_convert_bytes_string w 22 9 5 _ 0 0 Try.underlying22 Try.underlying5 Try.underlying9, run_bytesToString w _ 0 0 [] hl]
    rfl
set_option maxRecDepth 100000 in
set_option maxHeartbeats 400000 in
theorem same_gW (a b : Value) (w : World) (l : List UInt8) (ha : RdW w a l) (hb : RdW w b l) :
    Calls Try.prog 32 #[a, b] w fun e w' => e = .returned (.bool true) ∧ w.grownBy w' none := by
  have r1 := run_toStringW w a l ha
  have r2 := run_toStringW w b l hb
  clear ha hb
  go_enter Try.func32, Try.ntmps32
  go_wp2
  go_ret
  exact ⟨rfl, gb_refl _ _⟩

set_option maxRecDepth 100000 in
set_option maxHeartbeats 400000 in
theorem sameMsgW (a1 a2 a3 a4 a5 a6 a7 a8 : Int) (va vb : Value) (l : List UInt8) (w : World) (ha : RdW w va l) (hb : RdW w vb l) :
    Calls Try.prog 44 #[msgV a1 a2 a3 a4 a5 a6 a7 a8 va, msgV a1 a2 a3 a4 a5 a6 a7 a8 vb] w fun e w' => e = .returned (.bool true) ∧ w.grownBy w' none := by
  have HC := Lib.hid (fun W (hg : w.grownBy W none) => same_gW va vb W l (ha.grown hg) (hb.grown hg))
  have h4 := arr4_eq a5 a6 a7 a8
  clear ha hb
  go_enter Try.func44, Try.ntmps44
  go_wp2_with (go_at_call 32; refine (HC.out _ (gb_of_below (by go_grown))).mono ?_; rintro e w1 ⟨rfl, hg1⟩)
  go_ret
  exact ⟨rfl, gb_same (gb_of_below (by go_grown)) hg1⟩

set_option maxRecDepth 100000 in
set_option maxHeartbeats 400000 in
theorem sameEntW (a1 a2 a3 a4 a5 a6 a7 : Int) (va vb : Value) (l : List UInt8) (w : World) (ha : RdW w va l) (hb : RdW w vb l) :
    Calls Try.prog 46 #[entV a1 a2 a3 a4 a5 a6 a7 va, entV a1 a2 a3 a4 a5 a6 a7 vb] w fun e w' => e = .returned (.bool true) ∧ w.grownBy w' none := by
  have HC := Lib.hid (fun W (hg : w.grownBy W none) => same_gW va vb W l (ha.grown hg) (hb.grown hg))
  have h4 := arr3_eq a4 a5 a6
  clear ha hb
  go_enter Try.func46, Try.ntmps46
  go_wp2_with (go_at_call 32; refine (HC.out _ (gb_of_below (by go_grown))).mono ?_; rintro e w1 ⟨rfl, hg1⟩)
  go_ret
  exact ⟨rfl, gb_same (gb_of_below (by go_grown)) hg1⟩

set_option maxRecDepth 100000 in
set_option maxHeartbeats 8000000 in
theorem sameEffs (lv lv' : Value) (ps ps' : List EffP) (w : World) (hl : RdEs w lv ps) (hl' : RdEs w lv' ps') (he : ps.map (·.1) = ps'.map (·.1)) :
    Calls Try.prog 45 #[lv, lv'] w fun e w' => e = .returned (.bool true) ∧ w.grownBy w' none := by
  obtain ⟨a0, c0, rfl⟩ := hl.len
  obtain ⟨a1, c1, rfl⟩ := hl'.len
  have hn : ps'.length = ps.length := by have := congrArg List.length he; simpa using this.symm
  have hmx := hl.max
  rw [hn]
  rw [hn] at hl'
  have HL := Lib.hid hl
  have HL' := Lib.hid hl'
  have HE := Lib.hid he
  clear hl hl' he
  go_enter Try.func45, Try.ntmps45
  go_wp2
  go_loopw [5] (fun k wr => ∃ i : Nat, k = .int .i64 (i : Int) ∧ i ≤ ps.length ∧ w.grownBy wr none) (fun k _ => ps.length - (intOf k).toNat)
  case atStart => exact ⟨0, rfl, Nat.zero_le _, gb_refl _ _⟩
  case round =>
    obtain ⟨i, rfl, hi, hg⟩ := hrel
    have HG := Lib.hid hg
    clear hg
    by_cases hlt : i < ps.length
    · obtain ⟨p, hp⟩ : ∃ p, ps[i]? = some p := ⟨ps[i], by simp⟩
      obtain ⟨q, hq⟩ : ∃ q, ps'[i]? = some q := ⟨ps'[i]'(by omega), by simp⟩
      have hpq : p.1 = q.1 := by
        have h1 := congrArg (·[i]?) HE.out
        simp only [List.getElem?_map, hp, hq, Option.map_some, Option.some.injEq] at h1
        exact h1
      obtain ⟨gb, off, rfl, hrange⟩ := HL.out.at hp
      have hl2 := HL'.out
      rw [← hn] at hl2
      obtain ⟨gb2, off2, rfl, hrange2⟩ := hl2.at hq
      obtain ⟨⟨hx5, hx8, _, _⟩, _, _, hrm, hrd⟩ := HL.out.2 p (List.mem_of_getElem? hp)
      obtain ⟨_, _, _, hrm2, hrd2⟩ := HL'.out.2 q (List.mem_of_getElem? hq)
      obtain ⟨⟨xz, ⟨xm, xl⟩, xd⟩, mv, dv⟩ := p
      obtain ⟨x', mv2, dv2⟩ := q
      simp only at hpq
      subst hpq
      simp only at hx5 hx8 hrm hrd hrange hrm2 hrd2 hrange2
      match xz, hx5, xm, hx8 with
      | [k, a, b, c, d], _, [m0, m1, m2, m3, m4, m5, m6, m7], _ =>
      obtain ⟨am, cm, rfl⟩ := hrm.len
      obtain ⟨ad, cd, rfl⟩ := hrd.len
      obtain ⟨bm, em, rfl⟩ := hrm2.len
      obtain ⟨bd, ed, rfl⟩ := hrd2.len
      have HRNG : Hid (∀ W, w.grownBy W none → W.rangeAt gb (off + i * 15) [.int .i64 k, .int .i64 a, .int .i64 b, .int .i64 c, .int .i64 d, .int .i64 m0, .int .i64 m1, .int .i64 m2, .int .i64 m3, .int .i64 m4, .int .i64 m5, .int .i64 m6, .int .i64 m7, .slice am xl.length cm, .slice ad xd.length cd]) := Lib.hid (fun W hW j v hv => hW.cell (hrange j v hv) (by simp))
      have HRNG2 : Hid (∀ W, w.grownBy W none → W.rangeAt gb2 (off2 + i * 15) [.int .i64 k, .int .i64 a, .int .i64 b, .int .i64 c, .int .i64 d, .int .i64 m0, .int .i64 m1, .int .i64 m2, .int .i64 m3, .int .i64 m4, .int .i64 m5, .int .i64 m6, .int .i64 m7, .slice bm xl.length em, .slice bd xd.length ed]) := Lib.hid (fun W hW j v hv => hW.cell (hrange2 j v hv) (by simp))
      have HSM : Hid (∀ W, w.grownBy W none → Calls Try.prog 44 #[.agg #[.int .i64 m0, .int .i64 m1, .int .i64 m2, .int .i64 m3, .int .i64 m4, .int .i64 m5, .int .i64 m6, .int .i64 m7, .slice am xl.length cm], .agg #[.int .i64 m0, .int .i64 m1, .int .i64 m2, .int .i64 m3, .int .i64 m4, .int .i64 m5, .int .i64 m6, .int .i64 m7, .slice bm xl.length em]] W fun e w' => e = .returned (.bool true) ∧ W.grownBy w' none) := Lib.hid (fun W hW => sameMsgW m0 m1 m2 m3 m4 m5 m6 m7 _ _ xl W (hrm.grown hW) (hrm2.grown hW))
      have HSD : Hid (∀ W, w.grownBy W none → Calls Try.prog 32 #[.slice ad xd.length cd, .slice bd xd.length ed] W fun e w' => e = .returned (.bool true) ∧ W.grownBy w' none) := Lib.hid (fun W hW => same_gW _ _ W xd (hrd.grown hW) (hrd2.grown hW))
      have h4 := arr4_eq a b c d
      have cx0 : wr.cell? ⟨gb, off + i * 15, none⟩ = some (.int .i64 k) := HRNG.out _ HG.out 0 _ rfl; have cx1 : wr.cell? ⟨gb, off + i * 15 + 1, none⟩ = some (.int .i64 a) := HRNG.out _ HG.out 1 _ rfl; have cx2 : wr.cell? ⟨gb, off + i * 15 + 2, none⟩ = some (.int .i64 b) := HRNG.out _ HG.out 2 _ rfl; have cx3 : wr.cell? ⟨gb, off + i * 15 + 3, none⟩ = some (.int .i64 c) := HRNG.out _ HG.out 3 _ rfl; have cx4 : wr.cell? ⟨gb, off + i * 15 + 4, none⟩ = some (.int .i64 d) := HRNG.out _ HG.out 4 _ rfl; have cx5 : wr.cell? ⟨gb, off + i * 15 + 5, none⟩ = some (.int .i64 m0) := HRNG.out _ HG.out 5 _ rfl; have cx6 : wr.cell? ⟨gb, off + i * 15 + 6, none⟩ = some (.int .i64 m1) := HRNG.out _ HG.out 6 _ rfl; have cx7 : wr.cell? ⟨gb, off + i * 15 + 7, none⟩ = some (.int .i64 m2) := HRNG.out _ HG.out 7 _ rfl; have cx8 : wr.cell? ⟨gb, off + i * 15 + 8, none⟩ = some (.int .i64 m3) := HRNG.out _ HG.out 8 _ rfl; have cx9 : wr.cell? ⟨gb, off + i * 15 + 9, none⟩ = some (.int .i64 m4) := HRNG.out _ HG.out 9 _ rfl; have cx10 : wr.cell? ⟨gb, off + i * 15 + 10, none⟩ = some (.int .i64 m5) := HRNG.out _ HG.out 10 _ rfl; have cx11 : wr.cell? ⟨gb, off + i * 15 + 11, none⟩ = some (.int .i64 m6) := HRNG.out _ HG.out 11 _ rfl; have cx12 : wr.cell? ⟨gb, off + i * 15 + 12, none⟩ = some (.int .i64 m7) := HRNG.out _ HG.out 12 _ rfl; have cx13 : wr.cell? ⟨gb, off + i * 15 + 13, none⟩ = some (.slice am xl.length cm) := HRNG.out _ HG.out 13 _ rfl; have cx14 : wr.cell? ⟨gb, off + i * 15 + 14, none⟩ = some (.slice ad xd.length cd) := HRNG.out _ HG.out 14 _ rfl; have cy0 : wr.cell? ⟨gb2, off2 + i * 15, none⟩ = some (.int .i64 k) := HRNG2.out _ HG.out 0 _ rfl; have cy1 : wr.cell? ⟨gb2, off2 + i * 15 + 1, none⟩ = some (.int .i64 a) := HRNG2.out _ HG.out 1 _ rfl; have cy2 : wr.cell? ⟨gb2, off2 + i * 15 + 2, none⟩ = some (.int .i64 b) := HRNG2.out _ HG.out 2 _ rfl; have cy3 : wr.cell? ⟨gb2, off2 + i * 15 + 3, none⟩ = some (.int .i64 c) := HRNG2.out _ HG.out 3 _ rfl; have cy4 : wr.cell? ⟨gb2, off2 + i * 15 + 4, none⟩ = some (.int .i64 d) := HRNG2.out _ HG.out 4 _ rfl; have cy5 : wr.cell? ⟨gb2, off2 + i * 15 + 5, none⟩ = some (.int .i64 m0) := HRNG2.out _ HG.out 5 _ rfl; have cy6 : wr.cell? ⟨gb2, off2 + i * 15 + 6, none⟩ = some (.int .i64 m1) := HRNG2.out _ HG.out 6 _ rfl; have cy7 : wr.cell? ⟨gb2, off2 + i * 15 + 7, none⟩ = some (.int .i64 m2) := HRNG2.out _ HG.out 7 _ rfl; have cy8 : wr.cell? ⟨gb2, off2 + i * 15 + 8, none⟩ = some (.int .i64 m3) := HRNG2.out _ HG.out 8 _ rfl; have cy9 : wr.cell? ⟨gb2, off2 + i * 15 + 9, none⟩ = some (.int .i64 m4) := HRNG2.out _ HG.out 9 _ rfl; have cy10 : wr.cell? ⟨gb2, off2 + i * 15 + 10, none⟩ = some (.int .i64 m5) := HRNG2.out _ HG.out 10 _ rfl; have cy11 : wr.cell? ⟨gb2, off2 + i * 15 + 11, none⟩ = some (.int .i64 m6) := HRNG2.out _ HG.out 11 _ rfl; have cy12 : wr.cell? ⟨gb2, off2 + i * 15 + 12, none⟩ = some (.int .i64 m7) := HRNG2.out _ HG.out 12 _ rfl; have cy13 : wr.cell? ⟨gb2, off2 + i * 15 + 13, none⟩ = some (.slice bm xl.length em) := HRNG2.out _ HG.out 13 _ rfl; have cy14 : wr.cell? ⟨gb2, off2 + i * 15 + 14, none⟩ = some (.slice bd xd.length ed) := HRNG2.out _ HG.out 14 _ rfl
      clear hrange hrange2 hrm hrd hrm2 hrd2 hp hq hl2
      go_wp2
      go_region_held3 (fun w' => w'.cell? ⟨gb, off + i * 15, none⟩ = some (.int .i64 k) ∧ w'.cell? ⟨gb, off + i * 15 + 1, none⟩ = some (.int .i64 a) ∧ w'.cell? ⟨gb, off + i * 15 + 2, none⟩ = some (.int .i64 b) ∧ w'.cell? ⟨gb, off + i * 15 + 3, none⟩ = some (.int .i64 c) ∧ w'.cell? ⟨gb, off + i * 15 + 4, none⟩ = some (.int .i64 d) ∧ w'.cell? ⟨gb, off + i * 15 + 5, none⟩ = some (.int .i64 m0) ∧ w'.cell? ⟨gb, off + i * 15 + 6, none⟩ = some (.int .i64 m1) ∧ w'.cell? ⟨gb, off + i * 15 + 7, none⟩ = some (.int .i64 m2) ∧ w'.cell? ⟨gb, off + i * 15 + 8, none⟩ = some (.int .i64 m3) ∧ w'.cell? ⟨gb, off + i * 15 + 9, none⟩ = some (.int .i64 m4) ∧ w'.cell? ⟨gb, off + i * 15 + 10, none⟩ = some (.int .i64 m5) ∧ w'.cell? ⟨gb, off + i * 15 + 11, none⟩ = some (.int .i64 m6) ∧ w'.cell? ⟨gb, off + i * 15 + 12, none⟩ = some (.int .i64 m7) ∧ w'.cell? ⟨gb, off + i * 15 + 13, none⟩ = some (.slice am xl.length cm) ∧ w'.cell? ⟨gb, off + i * 15 + 14, none⟩ = some (.slice ad xd.length cd) ∧ w'.cell? ⟨gb2, off2 + i * 15, none⟩ = some (.int .i64 k) ∧ w'.cell? ⟨gb2, off2 + i * 15 + 1, none⟩ = some (.int .i64 a) ∧ w'.cell? ⟨gb2, off2 + i * 15 + 2, none⟩ = some (.int .i64 b) ∧ w'.cell? ⟨gb2, off2 + i * 15 + 3, none⟩ = some (.int .i64 c) ∧ w'.cell? ⟨gb2, off2 + i * 15 + 4, none⟩ = some (.int .i64 d) ∧ w'.cell? ⟨gb2, off2 + i * 15 + 5, none⟩ = some (.int .i64 m0) ∧ w'.cell? ⟨gb2, off2 + i * 15 + 6, none⟩ = some (.int .i64 m1) ∧ w'.cell? ⟨gb2, off2 + i * 15 + 7, none⟩ = some (.int .i64 m2) ∧ w'.cell? ⟨gb2, off2 + i * 15 + 8, none⟩ = some (.int .i64 m3) ∧ w'.cell? ⟨gb2, off2 + i * 15 + 9, none⟩ = some (.int .i64 m4) ∧ w'.cell? ⟨gb2, off2 + i * 15 + 10, none⟩ = some (.int .i64 m5) ∧ w'.cell? ⟨gb2, off2 + i * 15 + 11, none⟩ = some (.int .i64 m6) ∧ w'.cell? ⟨gb2, off2 + i * 15 + 12, none⟩ = some (.int .i64 m7) ∧ w'.cell? ⟨gb2, off2 + i * 15 + 13, none⟩ = some (.slice bm xl.length em) ∧ w'.cell? ⟨gb2, off2 + i * 15 + 14, none⟩ = some (.slice bd xd.length ed)) (go_keep) (first | (go_at_call 44; go_must (refine (HSM.out _ (gb_same HG.out (gb_drew _ _))).mono ?_; rintro e w5 ⟨rfl, hg5⟩; have G5 : Hid (w.grownBy w5 none) := Lib.hid (gb_same (gb_same HG.out (gb_drew _ _)) hg5); have dx0 : w5.cell? ⟨gb, off + i * 15, none⟩ = some (.int .i64 k) := HRNG.out _ G5.out 0 _ rfl; have dx1 : w5.cell? ⟨gb, off + i * 15 + 1, none⟩ = some (.int .i64 a) := HRNG.out _ G5.out 1 _ rfl; have dx2 : w5.cell? ⟨gb, off + i * 15 + 2, none⟩ = some (.int .i64 b) := HRNG.out _ G5.out 2 _ rfl; have dx3 : w5.cell? ⟨gb, off + i * 15 + 3, none⟩ = some (.int .i64 c) := HRNG.out _ G5.out 3 _ rfl; have dx4 : w5.cell? ⟨gb, off + i * 15 + 4, none⟩ = some (.int .i64 d) := HRNG.out _ G5.out 4 _ rfl; have dx5 : w5.cell? ⟨gb, off + i * 15 + 5, none⟩ = some (.int .i64 m0) := HRNG.out _ G5.out 5 _ rfl; have dx6 : w5.cell? ⟨gb, off + i * 15 + 6, none⟩ = some (.int .i64 m1) := HRNG.out _ G5.out 6 _ rfl; have dx7 : w5.cell? ⟨gb, off + i * 15 + 7, none⟩ = some (.int .i64 m2) := HRNG.out _ G5.out 7 _ rfl; have dx8 : w5.cell? ⟨gb, off + i * 15 + 8, none⟩ = some (.int .i64 m3) := HRNG.out _ G5.out 8 _ rfl; have dx9 : w5.cell? ⟨gb, off + i * 15 + 9, none⟩ = some (.int .i64 m4) := HRNG.out _ G5.out 9 _ rfl; have dx10 : w5.cell? ⟨gb, off + i * 15 + 10, none⟩ = some (.int .i64 m5) := HRNG.out _ G5.out 10 _ rfl; have dx11 : w5.cell? ⟨gb, off + i * 15 + 11, none⟩ = some (.int .i64 m6) := HRNG.out _ G5.out 11 _ rfl; have dx12 : w5.cell? ⟨gb, off + i * 15 + 12, none⟩ = some (.int .i64 m7) := HRNG.out _ G5.out 12 _ rfl; have dx13 : w5.cell? ⟨gb, off + i * 15 + 13, none⟩ = some (.slice am xl.length cm) := HRNG.out _ G5.out 13 _ rfl; have dx14 : w5.cell? ⟨gb, off + i * 15 + 14, none⟩ = some (.slice ad xd.length cd) := HRNG.out _ G5.out 14 _ rfl; have dy0 : w5.cell? ⟨gb2, off2 + i * 15, none⟩ = some (.int .i64 k) := HRNG2.out _ G5.out 0 _ rfl; have dy1 : w5.cell? ⟨gb2, off2 + i * 15 + 1, none⟩ = some (.int .i64 a) := HRNG2.out _ G5.out 1 _ rfl; have dy2 : w5.cell? ⟨gb2, off2 + i * 15 + 2, none⟩ = some (.int .i64 b) := HRNG2.out _ G5.out 2 _ rfl; have dy3 : w5.cell? ⟨gb2, off2 + i * 15 + 3, none⟩ = some (.int .i64 c) := HRNG2.out _ G5.out 3 _ rfl; have dy4 : w5.cell? ⟨gb2, off2 + i * 15 + 4, none⟩ = some (.int .i64 d) := HRNG2.out _ G5.out 4 _ rfl; have dy5 : w5.cell? ⟨gb2, off2 + i * 15 + 5, none⟩ = some (.int .i64 m0) := HRNG2.out _ G5.out 5 _ rfl; have dy6 : w5.cell? ⟨gb2, off2 + i * 15 + 6, none⟩ = some (.int .i64 m1) := HRNG2.out _ G5.out 6 _ rfl; have dy7 : w5.cell? ⟨gb2, off2 + i * 15 + 7, none⟩ = some (.int .i64 m2) := HRNG2.out _ G5.out 7 _ rfl; have dy8 : w5.cell? ⟨gb2, off2 + i * 15 + 8, none⟩ = some (.int .i64 m3) := HRNG2.out _ G5.out 8 _ rfl; have dy9 : w5.cell? ⟨gb2, off2 + i * 15 + 9, none⟩ = some (.int .i64 m4) := HRNG2.out _ G5.out 9 _ rfl; have dy10 : w5.cell? ⟨gb2, off2 + i * 15 + 10, none⟩ = some (.int .i64 m5) := HRNG2.out _ G5.out 10 _ rfl; have dy11 : w5.cell? ⟨gb2, off2 + i * 15 + 11, none⟩ = some (.int .i64 m6) := HRNG2.out _ G5.out 11 _ rfl; have dy12 : w5.cell? ⟨gb2, off2 + i * 15 + 12, none⟩ = some (.int .i64 m7) := HRNG2.out _ G5.out 12 _ rfl; have dy13 : w5.cell? ⟨gb2, off2 + i * 15 + 13, none⟩ = some (.slice bm xl.length em) := HRNG2.out _ G5.out 13 _ rfl; have dy14 : w5.cell? ⟨gb2, off2 + i * 15 + 14, none⟩ = some (.slice bd xd.length ed) := HRNG2.out _ G5.out 14 _ rfl; clear hg5)) | (go_at_call 32; go_must (refine (HSD.out _ G5.out).mono ?_; rintro e w6 ⟨rfl, hg6⟩; have G6 : Hid (w.grownBy w6 none) := Lib.hid (gb_same G5.out hg6); have ex0 : w6.cell? ⟨gb, off + i * 15, none⟩ = some (.int .i64 k) := HRNG.out _ G6.out 0 _ rfl; have ex1 : w6.cell? ⟨gb, off + i * 15 + 1, none⟩ = some (.int .i64 a) := HRNG.out _ G6.out 1 _ rfl; have ex2 : w6.cell? ⟨gb, off + i * 15 + 2, none⟩ = some (.int .i64 b) := HRNG.out _ G6.out 2 _ rfl; have ex3 : w6.cell? ⟨gb, off + i * 15 + 3, none⟩ = some (.int .i64 c) := HRNG.out _ G6.out 3 _ rfl; have ex4 : w6.cell? ⟨gb, off + i * 15 + 4, none⟩ = some (.int .i64 d) := HRNG.out _ G6.out 4 _ rfl; have ex5 : w6.cell? ⟨gb, off + i * 15 + 5, none⟩ = some (.int .i64 m0) := HRNG.out _ G6.out 5 _ rfl; have ex6 : w6.cell? ⟨gb, off + i * 15 + 6, none⟩ = some (.int .i64 m1) := HRNG.out _ G6.out 6 _ rfl; have ex7 : w6.cell? ⟨gb, off + i * 15 + 7, none⟩ = some (.int .i64 m2) := HRNG.out _ G6.out 7 _ rfl; have ex8 : w6.cell? ⟨gb, off + i * 15 + 8, none⟩ = some (.int .i64 m3) := HRNG.out _ G6.out 8 _ rfl; have ex9 : w6.cell? ⟨gb, off + i * 15 + 9, none⟩ = some (.int .i64 m4) := HRNG.out _ G6.out 9 _ rfl; have ex10 : w6.cell? ⟨gb, off + i * 15 + 10, none⟩ = some (.int .i64 m5) := HRNG.out _ G6.out 10 _ rfl; have ex11 : w6.cell? ⟨gb, off + i * 15 + 11, none⟩ = some (.int .i64 m6) := HRNG.out _ G6.out 11 _ rfl; have ex12 : w6.cell? ⟨gb, off + i * 15 + 12, none⟩ = some (.int .i64 m7) := HRNG.out _ G6.out 12 _ rfl; have ex13 : w6.cell? ⟨gb, off + i * 15 + 13, none⟩ = some (.slice am xl.length cm) := HRNG.out _ G6.out 13 _ rfl; have ex14 : w6.cell? ⟨gb, off + i * 15 + 14, none⟩ = some (.slice ad xd.length cd) := HRNG.out _ G6.out 14 _ rfl; have ey0 : w6.cell? ⟨gb2, off2 + i * 15, none⟩ = some (.int .i64 k) := HRNG2.out _ G6.out 0 _ rfl; have ey1 : w6.cell? ⟨gb2, off2 + i * 15 + 1, none⟩ = some (.int .i64 a) := HRNG2.out _ G6.out 1 _ rfl; have ey2 : w6.cell? ⟨gb2, off2 + i * 15 + 2, none⟩ = some (.int .i64 b) := HRNG2.out _ G6.out 2 _ rfl; have ey3 : w6.cell? ⟨gb2, off2 + i * 15 + 3, none⟩ = some (.int .i64 c) := HRNG2.out _ G6.out 3 _ rfl; have ey4 : w6.cell? ⟨gb2, off2 + i * 15 + 4, none⟩ = some (.int .i64 d) := HRNG2.out _ G6.out 4 _ rfl; have ey5 : w6.cell? ⟨gb2, off2 + i * 15 + 5, none⟩ = some (.int .i64 m0) := HRNG2.out _ G6.out 5 _ rfl; have ey6 : w6.cell? ⟨gb2, off2 + i * 15 + 6, none⟩ = some (.int .i64 m1) := HRNG2.out _ G6.out 6 _ rfl; have ey7 : w6.cell? ⟨gb2, off2 + i * 15 + 7, none⟩ = some (.int .i64 m2) := HRNG2.out _ G6.out 7 _ rfl; have ey8 : w6.cell? ⟨gb2, off2 + i * 15 + 8, none⟩ = some (.int .i64 m3) := HRNG2.out _ G6.out 8 _ rfl; have ey9 : w6.cell? ⟨gb2, off2 + i * 15 + 9, none⟩ = some (.int .i64 m4) := HRNG2.out _ G6.out 9 _ rfl; have ey10 : w6.cell? ⟨gb2, off2 + i * 15 + 10, none⟩ = some (.int .i64 m5) := HRNG2.out _ G6.out 10 _ rfl; have ey11 : w6.cell? ⟨gb2, off2 + i * 15 + 11, none⟩ = some (.int .i64 m6) := HRNG2.out _ G6.out 11 _ rfl; have ey12 : w6.cell? ⟨gb2, off2 + i * 15 + 12, none⟩ = some (.int .i64 m7) := HRNG2.out _ G6.out 12 _ rfl; have ey13 : w6.cell? ⟨gb2, off2 + i * 15 + 13, none⟩ = some (.slice bm xl.length em) := HRNG2.out _ G6.out 13 _ rfl; have ey14 : w6.cell? ⟨gb2, off2 + i * 15 + 14, none⟩ = some (.slice bd xd.length ed) := HRNG2.out _ G6.out 14 _ rfl; clear hg6)))
      clear cx0 cx1 cx2 cx3 cx4 cx5 cx6 cx7 cx8 cx9 cx10 cx11 cx12 cx13 cx14 cy0 cy1 cy2 cy3 cy4 cy5 cy6 cy7 cy8 cy9 cy10 cy11 cy12 cy13 cy14 dx0 dx1 dx2 dx3 dx4 dx5 dx6 dx7 dx8 dx9 dx10 dx11 dx12 dx13 dx14 dy0 dy1 dy2 dy3 dy4 dy5 dy6 dy7 dy8 dy9 dy10 dy11 dy12 dy13 dy14 ex0 ex1 ex2 ex3 ex4 ex5 ex6 ex7 ex8 ex9 ex10 ex11 ex12 ex13 ex14 ey0 ey1 ey2 ey3 ey4 ey5 ey6 ey7 ey8 ey9 ey10 ey11 ey12 ey13 ey14
      go_wp2
      exact ⟨⟨i + 1, by go_num, by omega, G6.out⟩, by simp [intOf]; omega⟩
    · go_wp2
      go_ret
      exact ⟨rfl, HG.out⟩
end Go.Proofs.Ytgfopepopcacmaa
