/-
  The reference's encoder of an effect: the walk.
-/
import Derived.Test.YtgfopepopcacmaaRMsg
namespace Go.Proofs.Ytgfopepopcacmaa
open Go.RowKit

set_option maxRecDepth 100000 in
set_option maxHeartbeats 16000000 in
theorem rEffect_any (k a b c d m0 m1 m2 m3 m4 m5 m6 m7 : Int) (mv dv : Value) (xl xd : List UInt8) (w : World) (hz5 : ∀ z ∈ [k, a, b, c, d], OkI z) (hz8 : ∀ z ∈ [m0, m1, m2, m3, m4, m5, m6, m7], OkI z) (hm : RdW w mv xl) (hd : RdW w dv xd) (hl : xl.length ≤ 1000000) (hl2 : xd.length ≤ 1000000) :
    Calls Try.prog 82 #[.agg #[.int .i64 k, .int .i64 a, .int .i64 b, .int .i64 c, .int .i64 d, .int .i64 m0, .int .i64 m1, .int .i64 m2, .int .i64 m3, .int .i64 m4, .int .i64 m5, .int .i64 m6, .int .i64 m7, mv, dv]] w (EncPost w (encEE ([k, a, b, c, d], ([m0, m1, m2, m3, m4, m5, m6, m7], xl), xd))) := by
  obtain ⟨am, cm, rfl⟩ := hm.len
  obtain ⟨ad, cd, rfl⟩ := hd.len
  obtain ⟨wB, hwB⟩ : ∃ W, W = w.alloc (Obj.cells #[.int .i64 k, .int .i64 a, .int .i64 b, .int .i64 c, .int .i64 d, .int .i64 m0, .int .i64 m1, .int .i64 m2, .int .i64 m3, .int .i64 m4, .int .i64 m5, .int .i64 m6, .int .i64 m7, .slice am xl.length cm, .slice ad xd.length cd] 75) := ⟨_, rfl⟩
  have HWB := Lib.hid hwB
  have HBK : Hid (wB.heap[w.heap.size]? = some (Obj.cells #[.int .i64 k, .int .i64 a, .int .i64 b, .int .i64 c, .int .i64 d, .int .i64 m0, .int .i64 m1, .int .i64 m2, .int .i64 m3, .int .i64 m4, .int .i64 m5, .int .i64 m6, .int .i64 m7, .slice am xl.length cm, .slice ad xd.length cd] 75 (0, 0))) := Lib.hid (by rw [hwB]; exact heap_at_alloc _ _)
  have GB : Hid (w.grownBy wB none) := Lib.hid (by rw [hwB]; exact gb_alloc _ _ _)
  have c0 : wB.cell? ⟨w.heap.size, 0, none⟩ = some (.int .i64 k) := cell_row HBK.out; have c1 : wB.cell? ⟨w.heap.size, 1, none⟩ = some (.int .i64 a) := cell_row HBK.out; have c2 : wB.cell? ⟨w.heap.size, 2, none⟩ = some (.int .i64 b) := cell_row HBK.out; have c3 : wB.cell? ⟨w.heap.size, 3, none⟩ = some (.int .i64 c) := cell_row HBK.out; have c4 : wB.cell? ⟨w.heap.size, 4, none⟩ = some (.int .i64 d) := cell_row HBK.out; have c5 : wB.cell? ⟨w.heap.size, 5, none⟩ = some (.int .i64 m0) := cell_row HBK.out; have c6 : wB.cell? ⟨w.heap.size, 6, none⟩ = some (.int .i64 m1) := cell_row HBK.out; have c7 : wB.cell? ⟨w.heap.size, 7, none⟩ = some (.int .i64 m2) := cell_row HBK.out; have c8 : wB.cell? ⟨w.heap.size, 8, none⟩ = some (.int .i64 m3) := cell_row HBK.out; have c9 : wB.cell? ⟨w.heap.size, 9, none⟩ = some (.int .i64 m4) := cell_row HBK.out; have c10 : wB.cell? ⟨w.heap.size, 10, none⟩ = some (.int .i64 m5) := cell_row HBK.out; have c11 : wB.cell? ⟨w.heap.size, 11, none⟩ = some (.int .i64 m6) := cell_row HBK.out; have c12 : wB.cell? ⟨w.heap.size, 12, none⟩ = some (.int .i64 m7) := cell_row HBK.out; have c13 : wB.cell? ⟨w.heap.size, 13, none⟩ = some (.slice am xl.length cm) := cell_row HBK.out; have c14 : wB.cell? ⟨w.heap.size, 14, none⟩ = some (.slice ad xd.length cd) := cell_row HBK.out
  have HP : Hid (∀ W W' : World, (W.alloc (Obj.cells #[.int .i64 k, .int .i64 a, .int .i64 b, .int .i64 c, .int .i64 d] 3)).grownBy W' none → Calls Try.prog 79 #[.slice (some ⟨W.heap.size, 0, none⟩) 5 5] W' (EncPost W' (encL [k, a, b, c, d]))) := Lib.hid (fun W W' hW => rplain_any _ _ _ ((rdl_lit W [k, a, b, c, d] 5 3 rfl (by omega)).grown hW) hz5 (by simp))
  have HM : Hid (∀ W, w.grownBy W none → Calls Try.prog 41 #[.agg #[.int .i64 m0, .int .i64 m1, .int .i64 m2, .int .i64 m3, .int .i64 m4, .int .i64 m5, .int .i64 m6, .int .i64 m7, .slice am xl.length cm]] W (EncPost W (encMM ([m0, m1, m2, m3, m4, m5, m6, m7], xl)))) := Lib.hid (fun W hW => rMsg_any m0 m1 m2 m3 m4 m5 m6 m7 _ xl W hz8 (hm.grown hW) (by omega))
  have HY : Hid (∀ W, w.grownBy W none → Calls Try.prog 80 #[.slice ad xd.length cd] W (EncPost W (encS xd))) := Lib.hid (fun W hW => rBytes_any _ xd W (hd.grown hW) (by omega))
  have hel : (encL [k, a, b, c, d]).length ≤ 50 := by have := encL_len [k, a, b, c, d]; simp only [List.length_cons, List.length_nil] at this; omega
  have hml : (encMM ([m0, m1, m2, m3, m4, m5, m6, m7], xl)).length ≤ 1000100 := by
    have h1 := encL_len [m0, m1, m2, m3, m4, m5, m6, m7]
    have h2 := encS_len xl
    unfold encMM
    simp only [List.length_append, List.length_cons, List.length_nil] at h1 ⊢
    omega
  have hsl := encS_len xd
  clear hd hm hz5 hz8 hwB
  unfold encEE
  generalize encMM ([m0, m1, m2, m3, m4, m5, m6, m7], xl) = E at *
  generalize encL [k, a, b, c, d] = P at *
  generalize encS xd = D at *
  go_enter Try.func82, Try.ntmps82
  go_wp2_with fail
  rw [← HWB.out]
  go_region_held3 (fun w' => w'.cell? ⟨w.heap.size, 0, none⟩ = some (.int .i64 k) ∧ w'.cell? ⟨w.heap.size, 1, none⟩ = some (.int .i64 a) ∧ w'.cell? ⟨w.heap.size, 2, none⟩ = some (.int .i64 b) ∧ w'.cell? ⟨w.heap.size, 3, none⟩ = some (.int .i64 c) ∧ w'.cell? ⟨w.heap.size, 4, none⟩ = some (.int .i64 d) ∧ w'.cell? ⟨w.heap.size, 5, none⟩ = some (.int .i64 m0) ∧ w'.cell? ⟨w.heap.size, 6, none⟩ = some (.int .i64 m1) ∧ w'.cell? ⟨w.heap.size, 7, none⟩ = some (.int .i64 m2) ∧ w'.cell? ⟨w.heap.size, 8, none⟩ = some (.int .i64 m3) ∧ w'.cell? ⟨w.heap.size, 9, none⟩ = some (.int .i64 m4) ∧ w'.cell? ⟨w.heap.size, 10, none⟩ = some (.int .i64 m5) ∧ w'.cell? ⟨w.heap.size, 11, none⟩ = some (.int .i64 m6) ∧ w'.cell? ⟨w.heap.size, 12, none⟩ = some (.int .i64 m7) ∧ w'.cell? ⟨w.heap.size, 13, none⟩ = some (.slice am xl.length cm) ∧ w'.cell? ⟨w.heap.size, 14, none⟩ = some (.slice ad xd.length cd)) (go_keep) (first | (go_at_call 79; go_must (refine (HP.out _ _ (gb_drew _ _)).mono ?_; rintro e w5 ⟨v5, rfl, ho5, hg5⟩; have g5 : wB.grownBy w5 none := gb_same (gb_same (gb_alloc _ _ _) (gb_drew _ _)) hg5; have HBK5 := Lib.hid (blk_kept HBK.out g5); have HO5 : Hid (Own w5 wB.heap.size v5 P) := Lib.hid (ho5.mono (gb_same (gb_alloc _ _ none) (gb_drew _ _)).size); have HS5 := Lib.hid g5.size; have HG5 := Lib.hid (gb_same GB.out g5); have d0 : w5.cell? ⟨w.heap.size, 0, none⟩ = some (.int .i64 k) := cell_row HBK5.out; have d1 : w5.cell? ⟨w.heap.size, 1, none⟩ = some (.int .i64 a) := cell_row HBK5.out; have d2 : w5.cell? ⟨w.heap.size, 2, none⟩ = some (.int .i64 b) := cell_row HBK5.out; have d3 : w5.cell? ⟨w.heap.size, 3, none⟩ = some (.int .i64 c) := cell_row HBK5.out; have d4 : w5.cell? ⟨w.heap.size, 4, none⟩ = some (.int .i64 d) := cell_row HBK5.out; have d5 : w5.cell? ⟨w.heap.size, 5, none⟩ = some (.int .i64 m0) := cell_row HBK5.out; have d6 : w5.cell? ⟨w.heap.size, 6, none⟩ = some (.int .i64 m1) := cell_row HBK5.out; have d7 : w5.cell? ⟨w.heap.size, 7, none⟩ = some (.int .i64 m2) := cell_row HBK5.out; have d8 : w5.cell? ⟨w.heap.size, 8, none⟩ = some (.int .i64 m3) := cell_row HBK5.out; have d9 : w5.cell? ⟨w.heap.size, 9, none⟩ = some (.int .i64 m4) := cell_row HBK5.out; have d10 : w5.cell? ⟨w.heap.size, 10, none⟩ = some (.int .i64 m5) := cell_row HBK5.out; have d11 : w5.cell? ⟨w.heap.size, 11, none⟩ = some (.int .i64 m6) := cell_row HBK5.out; have d12 : w5.cell? ⟨w.heap.size, 12, none⟩ = some (.int .i64 m7) := cell_row HBK5.out; have d13 : w5.cell? ⟨w.heap.size, 13, none⟩ = some (.slice am xl.length cm) := cell_row HBK5.out; have d14 : w5.cell? ⟨w.heap.size, 14, none⟩ = some (.slice ad xd.length cd) := cell_row HBK5.out; clear ho5 hg5 g5)) | (go_at_call 41; go_must (refine (HM.out _ HG5.out).mono ?_; rintro e w6 ⟨v6, rfl, ho6, hg6⟩; have HBK6 := Lib.hid (blk_kept HBK5.out hg6); have HO6 := Lib.hid (HO5.out.grown hg6); have HS6 := Lib.hid (Nat.le_trans HS5.out hg6.size); have HR6 := Lib.hid ho6.rd.w; have HG6 := Lib.hid (gb_same HG5.out hg6); have e0 : w6.cell? ⟨w.heap.size, 0, none⟩ = some (.int .i64 k) := cell_row HBK6.out; have e1 : w6.cell? ⟨w.heap.size, 1, none⟩ = some (.int .i64 a) := cell_row HBK6.out; have e2 : w6.cell? ⟨w.heap.size, 2, none⟩ = some (.int .i64 b) := cell_row HBK6.out; have e3 : w6.cell? ⟨w.heap.size, 3, none⟩ = some (.int .i64 c) := cell_row HBK6.out; have e4 : w6.cell? ⟨w.heap.size, 4, none⟩ = some (.int .i64 d) := cell_row HBK6.out; have e5 : w6.cell? ⟨w.heap.size, 5, none⟩ = some (.int .i64 m0) := cell_row HBK6.out; have e6 : w6.cell? ⟨w.heap.size, 6, none⟩ = some (.int .i64 m1) := cell_row HBK6.out; have e7 : w6.cell? ⟨w.heap.size, 7, none⟩ = some (.int .i64 m2) := cell_row HBK6.out; have e8 : w6.cell? ⟨w.heap.size, 8, none⟩ = some (.int .i64 m3) := cell_row HBK6.out; have e9 : w6.cell? ⟨w.heap.size, 9, none⟩ = some (.int .i64 m4) := cell_row HBK6.out; have e10 : w6.cell? ⟨w.heap.size, 10, none⟩ = some (.int .i64 m5) := cell_row HBK6.out; have e11 : w6.cell? ⟨w.heap.size, 11, none⟩ = some (.int .i64 m6) := cell_row HBK6.out; have e12 : w6.cell? ⟨w.heap.size, 12, none⟩ = some (.int .i64 m7) := cell_row HBK6.out; have e13 : w6.cell? ⟨w.heap.size, 13, none⟩ = some (.slice am xl.length cm) := cell_row HBK6.out; have e14 : w6.cell? ⟨w.heap.size, 14, none⟩ = some (.slice ad xd.length cd) := cell_row HBK6.out; clear ho6 hg6)) | (refine step_appW rfl (.tmp 19) (.tmp 22) rfl wB.heap.size v5 v6 P E rfl rfl HO6.out HR6.out HS6.out (by omega) ?_; intro v8 w8 ho8 hg8 hf8; have HO8 := Lib.hid ho8; have HS8 := Lib.hid (Nat.le_trans HS6.out hg8.size); have HG8 : Hid (w.grownBy w8 none) := Lib.hid (gb_trans HG6.out hg8 (fun j hj => .inr (Nat.le_trans GB.out.size (HO6.out.lt j hj).1))); have HBK8 := Lib.hid (blk_kept' HBK6.out hg8 (fun e => by have h1 := (HO6.out.lt _ e).1; have h2 := lt_of_block HBK.out; omega)); have f0 : w8.cell? ⟨w.heap.size, 0, none⟩ = some (.int .i64 k) := cell_row HBK8.out; have f1 : w8.cell? ⟨w.heap.size, 1, none⟩ = some (.int .i64 a) := cell_row HBK8.out; have f2 : w8.cell? ⟨w.heap.size, 2, none⟩ = some (.int .i64 b) := cell_row HBK8.out; have f3 : w8.cell? ⟨w.heap.size, 3, none⟩ = some (.int .i64 c) := cell_row HBK8.out; have f4 : w8.cell? ⟨w.heap.size, 4, none⟩ = some (.int .i64 d) := cell_row HBK8.out; have f5 : w8.cell? ⟨w.heap.size, 5, none⟩ = some (.int .i64 m0) := cell_row HBK8.out; have f6 : w8.cell? ⟨w.heap.size, 6, none⟩ = some (.int .i64 m1) := cell_row HBK8.out; have f7 : w8.cell? ⟨w.heap.size, 7, none⟩ = some (.int .i64 m2) := cell_row HBK8.out; have f8 : w8.cell? ⟨w.heap.size, 8, none⟩ = some (.int .i64 m3) := cell_row HBK8.out; have f9 : w8.cell? ⟨w.heap.size, 9, none⟩ = some (.int .i64 m4) := cell_row HBK8.out; have f10 : w8.cell? ⟨w.heap.size, 10, none⟩ = some (.int .i64 m5) := cell_row HBK8.out; have f11 : w8.cell? ⟨w.heap.size, 11, none⟩ = some (.int .i64 m6) := cell_row HBK8.out; have f12 : w8.cell? ⟨w.heap.size, 12, none⟩ = some (.int .i64 m7) := cell_row HBK8.out; have f13 : w8.cell? ⟨w.heap.size, 13, none⟩ = some (.slice am xl.length cm) := cell_row HBK8.out; have f14 : w8.cell? ⟨w.heap.size, 14, none⟩ = some (.slice ad xd.length cd) := cell_row HBK8.out; clear ho8 hg8 hf8))
  clear c0 c1 c2 c3 c4 c5 c6 c7 c8 c9 c10 c11 c12 c13 c14 d0 d1 d2 d3 d4 d5 d6 d7 d8 d9 d10 d11 d12 d13 d14 e0 e1 e2 e3 e4 e5 e6 e7 e8 e9 e10 e11 e12 e13 e14 f0 f1 f2 f3 f4 f5 f6 f7 f8 f9 f10 f11 f12 f13
  go_wp2_with fail
  refine (HY.out _ HG8.out).mono ?_
  rintro e w9 ⟨v9, rfl, ho9, hg9⟩
  have HO9 := Lib.hid (HO8.out.grown hg9)
  have HS9 := Lib.hid (Nat.le_trans HS8.out hg9.size)
  have HR9 := Lib.hid ho9.rd.w
  have HG9 := Lib.hid (gb_same HG8.out hg9)
  clear ho9 hg9
  go_wp2_with (at_builtin; refine app_bytesW rfl _ _ rfl wB.heap.size _ _ _ _ rfl rfl HO9.out HR9.out HS9.out (by rw [List.length_append]; omega) ?_; go_must (intro va wa hoa hga hfa; have HOA := Lib.hid hoa; have HGA : Hid (w.grownBy wa none) := Lib.hid (gb_trans HG9.out hga (fun j hj => .inr (Nat.le_trans GB.out.size (HO9.out.lt j hj).1))); clear hoa hga hfa))
  go_ret
  exact ⟨_, rfl, HOA.out.mono GB.out.size, HGA.out⟩


def FInv (w : World) (xs : List EffT) (u k : Value) (wr : World) : Prop :=
  ∃ i : Nat, k = .int .i64 (i : Int) ∧ i ≤ xs.length ∧ Own wr w.heap.size u (enc xs.length ++ (xs.take i).flatMap encEE) ∧ w.grownBy wr none

set_option maxRecDepth 100000 in
set_option maxHeartbeats 8000000 in
theorem rEffects_any (lv : Value) (ps : List EffP) (w : World) (hl : RdEs w lv ps) (hlen : (encEs (ps.map (·.1))).length ≤ 1000000) (hn : ps.length ≤ 1000) :
    Calls Try.prog 42 #[lv] w (EncPost w (encEs (ps.map (·.1)))) := by
  obtain ⟨xs, hxs⟩ : ∃ xs, ps.map (·.1) = xs := ⟨_, rfl⟩
  rw [hxs] at hlen ⊢
  have hpl : ps.length = xs.length := by rw [← hxs, List.length_map]
  obtain ⟨a0, c0, rfl⟩ := hl.len
  rw [hpl] at hl hn ⊢
  have HI := Lib.hid (rInt_any (xs.length : Int) w ⟨by omega, by omega⟩)
  have HL := Lib.hid hl
  have HXS := Lib.hid hxs
  have HLEN := Lib.hid hlen
  clear hl hxs hlen hpl
  go_enter Try.func42, Try.ntmps42
  go_wp2_with fail
  refine HI.out.mono ?_
  rintro e w1 ⟨v1, rfl, ho1, hg1⟩
  have HO1 := Lib.hid ho1
  have HG1 : Hid (w.grownBy w1 none) := Lib.hid hg1
  clear ho1 hg1 HI
  go_wp2
  go_loopw [3, 4] (fun u k wr => FInv w xs u k wr) (fun _ k _ => xs.length - (intOf k).toNat)
  case atStart => exact ⟨0, rfl, Nat.zero_le _, by simpa using HO1.out, HG1.out⟩
  case round =>
    obtain ⟨i, rfl, hi, ho, hg⟩ := hrel
    have HO := Lib.hid ho
    have HG := Lib.hid hg
    clear ho hg
    by_cases hlt : i < xs.length
    · obtain ⟨p, hp⟩ : ∃ p, ps[i]? = some p := ⟨ps[i]'(by rw [show ps.length = xs.length by rw [← HXS.out, List.length_map]]; exact hlt), by simp⟩
      obtain ⟨gb, off, rfl, hrange⟩ := HL.out.at hp
      obtain ⟨⟨hx5, hx8, hz5, hz8⟩, hms, hds, hrm, hrd⟩ := HL.out.2 p (List.mem_of_getElem? hp)
      have hxi : xs[i]? = some p.1 := by rw [← HXS.out, List.getElem?_map, hp]; rfl
      obtain ⟨⟨xz, ⟨xm, xl⟩, xd⟩, mv, dv⟩ := p
      simp only at hx5 hx8 hz5 hz8 hms hds hrm hrd hxi hrange
      match xz, hx5, xm, hx8 with
      | [k, a, b, c, d], _, [m0, m1, m2, m3, m4, m5, m6, m7], _ =>
      have hdl := data_le hxi
      have hEL : (encEE ([k, a, b, c, d], ([m0, m1, m2, m3, m4, m5, m6, m7], xl), xd)).length ≤ 3000000 := by
        have h1 := take_le xs (i + 1)
        rw [encE_take hxi] at h1
        simp only [List.length_append] at h1
        have := HLEN.out
        omega
      have hPL : (enc xs.length ++ (xs.take i).flatMap encEE).length ≤ 1000000 := Nat.le_trans (take_le xs i) HLEN.out
      have hL := HLEN.out
      simp only at hdl
      have HC : Hid (∀ W, w.grownBy W none → Calls Try.prog 82 #[.agg #[.int .i64 k, .int .i64 a, .int .i64 b, .int .i64 c, .int .i64 d, .int .i64 m0, .int .i64 m1, .int .i64 m2, .int .i64 m3, .int .i64 m4, .int .i64 m5, .int .i64 m6, .int .i64 m7, mv, dv]] W (EncPost W (encEE ([k, a, b, c, d], ([m0, m1, m2, m3, m4, m5, m6, m7], xl), xd)))) := Lib.hid (fun W hW => rEffect_any k a b c d m0 m1 m2 m3 m4 m5 m6 m7 mv dv xl xd W hz5 hz8 (hrm.grown hW) (hrd.grown hW) (by omega) (by omega))
      have HRNG : Hid (∀ W, w.grownBy W none → W.rangeAt gb (off + i * 15) [.int .i64 k, .int .i64 a, .int .i64 b, .int .i64 c, .int .i64 d, .int .i64 m0, .int .i64 m1, .int .i64 m2, .int .i64 m3, .int .i64 m4, .int .i64 m5, .int .i64 m6, .int .i64 m7, mv, dv]) := Lib.hid (fun W hW j v hv => hW.cell (hrange j v hv) (by simp))
      have HTK : Hid (enc xs.length ++ (xs.take (i + 1)).flatMap encEE = (enc xs.length ++ (xs.take i).flatMap encEE) ++ encEE ([k, a, b, c, d], ([m0, m1, m2, m3, m4, m5, m6, m7], xl), xd)) := Lib.hid (by rw [encE_take hxi, List.append_assoc])
      generalize encEE ([k, a, b, c, d], ([m0, m1, m2, m3, m4, m5, m6, m7], xl), xd) = E at *
      generalize enc xs.length ++ (xs.take i).flatMap encEE = P at *
      clear hrange hz5 hz8 hms hds hrm hrd hxi hp
      go_wp2_with (first | ((with_reducible refine is_load 75 18 17 ?_); go_must (refine wpList_load_mid rfl 75 (.tmp 17) rfl gb (off + i * 15) rfl [.int .i64 k, .int .i64 a, .int .i64 b, .int .i64 c, .int .i64 d, .int .i64 m0, .int .i64 m1, .int .i64 m2, .int .i64 m3, .int .i64 m4, .int .i64 m5, .int .i64 m6, .int .i64 m7, mv, dv] _ (HRNG.out _ HG.out) Try.underlying75 rfl sz_eff ?_)) | (go_at_call 82; refine (HC.out _ HG.out).mono ?_; go_must (rintro e w9 ⟨v9, rfl, ho9, hg9⟩; have HO9 := Lib.hid (HO.out.grown hg9); have HR9 := Lib.hid ho9.rd; have HG9 : Hid (w.grownBy w9 none) := Lib.hid (gb_same HG.out hg9); clear ho9 hg9)) | (at_builtin; refine app_bytes rfl _ _ rfl w.heap.size _ _ _ _ rfl rfl HO9.out HR9.out HG9.out.size (by omega) ?_; go_must (intro v8 w8 ho8 hg8 hf8)))
      refine ⟨⟨i + 1, by go_num, by omega, by rw [HTK.out]; exact ho8, gb_trans HG9.out hg8 (fun j hj => .inr (HO9.out.lt j hj).1)⟩, by simp [intOf]; omega⟩
    · obtain rfl : i = xs.length := by omega
      rw [List.take_length] at HO
      go_wp2
      go_ret
      exact ⟨_, rfl, HO.out, HG.out⟩
end Go.Proofs.Ytgfopepopcacmaa
