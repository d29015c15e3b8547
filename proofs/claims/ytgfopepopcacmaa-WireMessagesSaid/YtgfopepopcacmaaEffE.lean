/-
  wire.Effects: a list of effects appended.
-/
import Derived.Test.YtgfopepopcacmaaWhole
import Derived.Test.YtgfopepopcacmaaMsgE
import Derived.Test.YtgfopepopcacmaaEntE
import Derived.Deep.MidRow
import Derived.Outline
namespace Go.Proofs.Ytgfopepopcacmaa
open Go.RowKit

def encMM (m : List Int × List UInt8) : List UInt8 := encL m.1 ++ encS m.2
def encEE (x : EffT) : List UInt8 := encL x.1 ++ encMM x.2.1 ++ encS x.2.2
def encEs (xs : List EffT) : List UInt8 := enc xs.length ++ xs.flatMap encEE
def OkI (z : Int) : Prop := -9223372036854775808 ≤ z ∧ z ≤ 9223372036854775807
def OkE (x : EffT) : Prop := x.1.length = 5 ∧ x.2.1.1.length = 8 ∧ (∀ z ∈ x.1, OkI z) ∧ (∀ z ∈ x.2.1.1, OkI z)

/-- a list of effects that can be read -/
def RdEs (w : World) (v : Value) (ps : List EffP) : Prop :=
  ((v = .slice none 0 0 ∧ ps = []) ∨ ∃ b off cap, v = .slice (some ⟨b, off, none⟩) ps.length cap ∧ ps.length ≤ cap ∧ cap ≤ maxLen ∧ ∀ (j : Nat) (c : Value), (cellsP ps)[j]? = some c → w.cell? ⟨b, off + j, none⟩ = some c) ∧
  ∀ p ∈ ps, OkE p.1 ∧ IsSl p.2.1 ∧ IsSl p.2.2 ∧ RdW w p.2.1 p.1.2.1.2 ∧ RdW w p.2.2 p.1.2.2
theorem RdEs.grown {w w' : World} {v : Value} {ps : List EffP} (h : RdEs w v ps) (hg : w.grownBy w' none) : RdEs w' v ps := by
  refine ⟨?_, fun p hp => ?_⟩
  · rcases h.1 with h1 | ⟨b, off, cap, rfl, h1, h2, h3⟩
    · exact .inl h1
    · exact .inr ⟨b, off, cap, rfl, h1, h2, fun j c hj => hg.cell (h3 j c hj) (by simp)⟩
  · obtain ⟨h1, h2, h3, h4, h5⟩ := h.2 p hp
    exact ⟨h1, h2, h3, h4.grown hg, h5.grown hg⟩
theorem RdEs.len {w : World} {v : Value} {ps : List EffP} (h : RdEs w v ps) : ∃ a c, v = .slice a ps.length c := by
  rcases h.1 with ⟨rfl, rfl⟩ | ⟨b, off, cap, rfl, _⟩
  · exact ⟨none, 0, rfl⟩
  · exact ⟨_, _, rfl⟩
theorem cellsP_get : ∀ (ps : List EffP), (∀ p ∈ ps, (p.1.1 ++ p.1.2.1.1).length = 13) → ∀ {i j : Nat} {p : EffP} {c : Value}, ps[i]? = some p → (rowE (p.1.1 ++ p.1.2.1.1) p.2.1 p.2.2)[j]? = some c → (cellsP ps)[i * 15 + j]? = some c := by
  intro ps
  induction ps with
  | nil => intro _ i j p c hi; simp at hi
  | cons q ps ih =>
    intro h i j p c hi hj
    have hq : (rowE (q.1.1 ++ q.1.2.1.1) q.2.1 q.2.2).length = 15 := by rw [rowE_len, h q (by simp)]
    have hcp : cellsP (q :: ps) = rowE (q.1.1 ++ q.1.2.1.1) q.2.1 q.2.2 ++ cellsP ps := by simp [cellsP]
    rw [hcp]
    cases i with
    | zero =>
      simp at hi
      subst hi
      have hlt : j < 15 := by rw [← hq]; exact (List.getElem?_eq_some_iff.1 hj).1
      rw [Nat.zero_mul, Nat.zero_add, List.getElem?_append_left (by omega)]
      exact hj
    | succ i =>
      have := ih (fun p hp => h p (by simp [hp])) (i := i) (j := j) (by simpa using hi) hj
      rw [List.getElem?_append_right (by omega), hq, show (i + 1) * 15 + j - 15 = i * 15 + j by omega]
      exact this
theorem RdEs.at {w : World} {a : Option Addr} {n c : Nat} {ps : List EffP} (h : RdEs w (.slice a n c) ps) {i : Nat} {p : EffP} (hi : ps[i]? = some p) :
    ∃ b off, a = some ⟨b, off, none⟩ ∧ w.rangeAt b (off + i * 15) (rowE (p.1.1 ++ p.1.2.1.1) p.2.1 p.2.2) := by
  rcases h.1 with ⟨_, rfl⟩ | ⟨b, off, cap, h0, h1, h2, h3⟩
  · simp at hi
  · simp only [Value.slice.injEq] at h0
    refine ⟨b, off, h0.1, fun j v hv => ?_⟩
    rw [Nat.add_assoc]
    exact h3 _ _ (cellsP_get ps (fun p hp => by obtain ⟨⟨k1, k2, _⟩, _⟩ := h.2 p hp; rw [List.length_append, k1, k2]) hi hv)

theorem take_le (xs : List EffT) (i : Nat) : (enc xs.length ++ (xs.take i).flatMap encEE).length ≤ (encEs xs).length := by
  unfold encEs
  have h : xs.flatMap encEE = (xs.take i).flatMap encEE ++ (xs.drop i).flatMap encEE := by rw [← List.flatMap_append, List.take_append_drop]
  rw [h]
  simp only [List.length_append]
  omega
theorem encE_take {xs : List EffT} {i : Nat} {x : EffT} (h : xs[i]? = some x) : (xs.take (i + 1)).flatMap encEE = (xs.take i).flatMap encEE ++ encEE x := by
  rw [List.take_add_one, h, List.flatMap_append]
  simp
theorem data_le {xs : List EffT} {i : Nat} {x : EffT} (h : xs[i]? = some x) : x.2.1.2.length + x.2.2.length ≤ (encEs xs).length := by
  have h1 := take_le xs (i + 1)
  rw [encE_take h] at h1
  simp only [encEE, encMM, encS, List.length_append] at h1
  omega

theorem encM_len (x y : List Int) (z : List UInt8) : (encM x y z).length ≤ 10 * x.length + 10 * y.length + z.length + 10 := by
  have h1 := encL_len x
  have h2 := encL_len y
  have h3 := encS_len z
  unfold encM
  simp only [List.length_append]
  omega

def EEInv (w : World) (xs : List EffT) (u k : Value) (wr : World) : Prop :=
  ∃ i : Nat, k = .int .i64 (i : Int) ∧ i ≤ xs.length ∧ Own wr w.heap.size u (enc xs.length ++ (xs.take i).flatMap encEE) ∧ w.grownBy wr none
def EncPost (w : World) (l : List UInt8) (e : Ending) (w' : World) : Prop := ∃ v, e = .returned v ∧ Own w' w.heap.size v l ∧ w.grownBy w' none

set_option maxRecDepth 100000 in
set_option maxHeartbeats 4000000 in
theorem weffects_any (lv : Value) (ps : List EffP) (w : World) (hl : RdEs w lv ps) (hlen : (encEs (ps.map (·.1))).length ≤ 1000000) (hn : ps.length ≤ 1000) :
    Calls Try.prog 37 #[.slice none 0 0, lv] w (EncPost w (encEs (ps.map (·.1)))) := by
  obtain ⟨xs, hxs⟩ : ∃ xs, ps.map (·.1) = xs := ⟨_, rfl⟩
  rw [hxs] at hlen ⊢
  have hpl : ps.length = xs.length := by rw [← hxs, List.length_map]
  obtain ⟨a0, c0, rfl⟩ := hl.len
  rw [hpl] at hl hn ⊢
  have HI := Lib.hid (int_any (.slice none 0 0) (xs.length : Int) w w.heap.size [] (by omega) (by omega) (Own.nil _ _) (Nat.le_refl _) (by simp))
  have HL := Lib.hid hl
  have HXS := Lib.hid hxs
  have HLEN := Lib.hid hlen
  clear hl hxs hlen hpl
  go_enter Try.func37, Try.ntmps37
  go_wp2_with fail
  refine HI.out.mono ?_
  rintro e w1 ⟨v1, rfl, ho1, hg1, hf1⟩
  have HO1 := Lib.hid ho1
  have HG1 : Hid (w.grownBy w1 none) := Lib.hid hg1
  clear ho1 hg1 hf1 HI
  go_wp2
  go_loopw [5, 13] (fun u k wr => EEInv w xs u k wr) (fun _ k _ => xs.length - (intOf k).toNat)
  case atStart => exact ⟨0, rfl, Nat.zero_le _, by simpa using HO1.out, HG1.out⟩
  case round =>
    obtain ⟨i, rfl, hi, ho, hg⟩ := hrel
    have HO := Lib.hid ho
    have HG := Lib.hid hg
    clear ho hg
    by_cases hlt : i < xs.length
    · obtain ⟨p, hp⟩ : ∃ p, ps[i]? = some p := ⟨ps[i]'(by rw [show ps.length = xs.length by rw [← HXS.out, List.length_map]]; exact hlt), by simp⟩
      obtain ⟨gb, off, rfl, hrange⟩ := HL.out.at hp
      obtain ⟨⟨hx5, hx8, hz5, hz8⟩, hms, hds, hrm, hrd⟩ := HL.out.2 p (List.mem_of_getElem? hp)
      have hxi : xs[i]? = some p.1 := by rw [← HXS.out, List.getElem?_map, hp]; rfl
      obtain ⟨⟨xz, ⟨xm, xl⟩, xd⟩, mv, dv⟩ := p
      simp only at hx5 hx8 hz5 hz8 hms hds hrm hrd hxi hrange
      match xz, hx5, xm, hx8 with
      | [k, a, b, c, d], _, [m0, m1, m2, m3, m4, m5, m6, m7], _ =>
      obtain ⟨am, cm, rfl⟩ := hrm.len
      obtain ⟨ad, cd, rfl⟩ := hrd.len
      have HRNG : Hid (∀ W, w.grownBy W none → W.rangeAt gb (off + i * 15) [.int .i64 k, .int .i64 a, .int .i64 b, .int .i64 c, .int .i64 d, .int .i64 m0, .int .i64 m1, .int .i64 m2, .int .i64 m3, .int .i64 m4, .int .i64 m5, .int .i64 m6, .int .i64 m7, .slice am xl.length cm, .slice ad xd.length cd]) := Lib.hid (fun W hW j v hv => hW.cell (hrange j v hv) (by simp))
      clear hrange
      have hk := hz5 k (by simp)
      have hz4 : ∀ z ∈ [a, b, c, d], OkI z := fun z hz => hz5 z (by simp at hz ⊢; right; exact hz)
      have HZ4 := Lib.hid hz4
      have HZ8 := Lib.hid hz8
      have HRM := Lib.hid hrm
      have HRD := Lib.hid hrd
      have HXI := Lib.hid hxi
      obtain ⟨P, hP⟩ : ∃ P, enc xs.length ++ (xs.take i).flatMap encEE = P := ⟨_, rfl⟩
      rw [hP] at HO
      have HP := Lib.hid hP
      have HPL : Hid (P.length ≤ 1000000) := Lib.hid (by rw [← hP]; exact Nat.le_trans (take_le xs i) HLEN.out)
      have HXL : Hid (xl.length ≤ 1000000 ∧ xd.length ≤ 1000000) := Lib.hid (by have h1 := data_le hxi; have h2 := HLEN.out; simp only at h1; omega)
      clear hz5 hz8 hz4 hrm hrd hxi hP hp hms hds
      go_wp2_with (first | ((with_reducible refine is_load 75 16 15 ?_); go_must (refine wpList_load_mid rfl 75 (.tmp 15) rfl gb (off + i * 15) rfl [.int .i64 k, .int .i64 a, .int .i64 b, .int .i64 c, .int .i64 d, .int .i64 m0, .int .i64 m1, .int .i64 m2, .int .i64 m3, .int .i64 m4, .int .i64 m5, .int .i64 m6, .int .i64 m7, .slice am xl.length cm, .slice ad xd.length cd] _ (HRNG.out _ HG.out) Try.underlying75 rfl sz_eff ?_)) | ((with_reducible refine is_store 75 7 16 ?_); go_must (refine st_row 75 7 16 wr.heap.size _ #[.int .i64 k, .int .i64 a, .int .i64 b, .int .i64 c, .int .i64 d, .int .i64 m0, .int .i64 m1, .int .i64 m2, .int .i64 m3, .int .i64 m4, .int .i64 m5, .int .i64 m6, .int .i64 m7, .slice am xl.length cm, .slice ad xd.length cd] _ rfl rfl (heap_at_alloc _ _) sz_eff rfl rfl ?_; intro w2 hb2 hg2)))
      have g2 : wr.grownBy w2 none := gb_new (gb_alloc _ _ _) hg2 (Nat.le_refl _)
      have HO2 := Lib.hid (HO.out.grown g2)
      have HG2 := Lib.hid (gb_same HG.out g2)
      have HB2 := Lib.hid hb2
      have hs2 : wr.heap.size < w2.heap.size := lt_of_block hb2
      have HLT := Lib.hid (fun k hk => (HO.out.lt k hk))
      clear hg2 hb2 g2
      have hc0 : w2.cell? ⟨wr.heap.size, 0, none⟩ = some (.int .i64 k) := cell_row HB2.out
      have hub : ∀ j, u5.ownBlock = some j → w.heap.size ≤ j ∧ j < wr.heap.size := HLT.out
      have HU := Lib.hid hub
      have hsw : w.heap.size ≤ wr.heap.size := HG.out.size
      have HC1 := Lib.hid (int_any u5 k w2.drew w.heap.size P hk.1 hk.2 (HO2.out.grown (gb_drew _ _)) (show w.heap.size ≤ w2.heap.size by omega) (by have := HPL.out; omega))
      have hek := (enc_len k).2
      have HC2 : Hid (∀ v4 w4, Own w4 w.heap.size v4 (P ++ enc k) → w2.drew.grownBy w4 u5.ownBlock → Fr w2.drew u5 v4 → Calls Try.prog 61 #[v4, .slice (some ⟨wr.heap.size, 1, none⟩) 4 4] w4 (IntPost w4 w.heap.size v4 ((P ++ enc k) ++ encL [a, b, c, d]))) := Lib.hid (fun v4 w4 ho4 hg4 hf4 => by
        have hb4 := blk_kept' (show w2.drew.heap[wr.heap.size]? = _ from HB2.out) hg4 (fun e => by have := (HU.out _ e).2; omega)
        refine numbers_any v4 (.slice (some ⟨wr.heap.size, 1, none⟩) 4 4) w4 w.heap.size (P ++ enc k) [a, b, c, d] HZ4.out ho4 (rdl4 (cell_row hb4) (cell_row hb4) (cell_row hb4) (cell_row hb4)) (by have h9 : w2.heap.size ≤ w4.heap.size := hg4.size; omega) (fun _ j hj e => ?_) (by have := HPL.out; simp only [List.length_append, List.length_cons, List.length_nil]; omega)
        have e1 : wr.heap.size = j := Option.some.inj hj
        rcases hf4 j e with h9 | h9
        · have := (HU.out _ h9).2; omega
        · have h10 : w2.heap.size ≤ j := h9; omega)
      clear hub hek
      go_wp2_with fail
      go_region_held3 (fun w' => w'.cell? ⟨wr.heap.size, 0, none⟩ = some (.int .i64 k)) (go_keep) (first | (go_at_call 20; go_must (refine HC1.out.mono ?_; rintro e w4 ⟨v4, rfl, ho4, hg4, hf4⟩; have HB4 := Lib.hid (blk_kept' (show w2.drew.heap[wr.heap.size]? = _ from HB2.out) hg4 (fun e => by have := (HU.out _ e).2; omega)); have d0 : w4.cell? ⟨wr.heap.size, 0, none⟩ = some (.int .i64 k) := cell_row HB4.out; have HC3 := Lib.hid (HC2.out v4 w4 ho4 hg4 hf4); have HG4 : Hid (w.grownBy w4 none) := Lib.hid (gb_trans (gb_same HG2.out (gb_drew _ _)) hg4 (fun j hj => .inr (HU.out j hj).1)); have HU4 : Hid (∀ j, v4.ownBlock = some j → w.heap.size ≤ j ∧ j ≠ wr.heap.size) := Lib.hid (fun j hj => ⟨(ho4.lt j hj).1, fun e => by rcases hf4 j hj with h9 | h9; exact absurd (HU.out _ h9).2 (by omega); exact absurd (show w2.heap.size ≤ j from h9) (by omega)⟩); clear ho4 hg4 hf4)) | (go_at_call 61; go_must (refine HC3.out.mono ?_; rintro e w5 ⟨v5, rfl, ho5, hg5, hf5⟩; have HB5 := Lib.hid (blk_kept' HB4.out hg5 (fun e => (HU4.out _ e).2 rfl)); have e0 : w5.cell? ⟨wr.heap.size, 0, none⟩ = some (.int .i64 k) := cell_row HB5.out; have HO5 := Lib.hid ho5; have HG5 : Hid (w.grownBy w5 none) := Lib.hid (gb_trans HG4.out hg5 (fun j hj => .inr (HU4.out j hj).1)); have HU5 : Hid (∀ j, v5.ownBlock = some j → w.heap.size ≤ j ∧ j ≠ wr.heap.size) := Lib.hid (fun j hj => ⟨(ho5.lt j hj).1, fun e => by rcases hf5 j hj with h9 | h9; exact (HU4.out _ h9).2 e; exact absurd (show w4.heap.size ≤ j from h9) (by have := lt_of_block HB4.out; omega)⟩); clear ho5 hg5 hf5)))
      obtain ⟨Q, hQ⟩ : ∃ Q, (P ++ enc k) ++ encL [a, b, c, d] = Q := ⟨_, rfl⟩
      rw [hQ] at HO5
      have hek := (enc_len k).2
      have hel4 := encL_len [a, b, c, d]
      have HQL : Hid (Q.length ≤ 1000100) := Lib.hid (by have := HPL.out; rw [← hQ]; simp only [List.length_append, List.length_cons, List.length_nil] at hel4 ⊢; omega)
      have HEM := encM_len [m0, m1, m2, m3] [m4, m5, m6, m7] xl
      have HQ := Lib.hid hQ
      have hs5 : wr.heap.size < w5.heap.size := lt_of_block HB5.out
      have HM := Lib.hid (wmsgW_any v5 (.slice am xl.length cm) w5.drew w.heap.size Q xl m0 m1 m2 m3 m4 m5 m6 m7 (HO5.out.grown (gb_drew _ _)) (HRM.out.grown (gb_same HG5.out (gb_drew _ _))) (show w.heap.size ≤ w5.heap.size by omega) HZ8.out (fun hne j hj e => by have h1 := HRM.out.blk hne j hj; have h2 := (HU5.out j e).1; omega) (by have := HQL.out; omega) (by have := HXL.out.1; omega))
      have HBY : Hid (∀ v6 w6, Own w6 w.heap.size v6 (Q ++ encM [m0, m1, m2, m3] [m4, m5, m6, m7] xl) → w.grownBy w6 none → Calls Try.prog 21 #[v6, .slice ad xd.length cd] w6 (IntPost w6 w.heap.size v6 ((Q ++ encM [m0, m1, m2, m3] [m4, m5, m6, m7] xl) ++ encS xd))) := Lib.hid (fun v6 w6 ho6 hg6 => wbytesW_any v6 (.slice ad xd.length cd) w6 w.heap.size _ xd ho6 (HRD.out.grown hg6) hg6.size (fun hne j hj e => by have h1 := HRD.out.blk hne j hj; have h2 := (ho6.lt j e).1; omega) (by have h1 := HQL.out; have h2 := HXL.out; simp only [List.length_append, List.length_cons, List.length_nil] at HEM ⊢; omega) (by have := HXL.out.2; omega))
      have f5 : w5.cell? ⟨wr.heap.size, 5, none⟩ = some (.int .i64 m0) := cell_row HB5.out
      have f6 : w5.cell? ⟨wr.heap.size, 6, none⟩ = some (.int .i64 m1) := cell_row HB5.out
      have f7 : w5.cell? ⟨wr.heap.size, 7, none⟩ = some (.int .i64 m2) := cell_row HB5.out
      have f8 : w5.cell? ⟨wr.heap.size, 8, none⟩ = some (.int .i64 m3) := cell_row HB5.out
      have f9 : w5.cell? ⟨wr.heap.size, 9, none⟩ = some (.int .i64 m4) := cell_row HB5.out
      have f10 : w5.cell? ⟨wr.heap.size, 10, none⟩ = some (.int .i64 m5) := cell_row HB5.out
      have f11 : w5.cell? ⟨wr.heap.size, 11, none⟩ = some (.int .i64 m6) := cell_row HB5.out
      have f12 : w5.cell? ⟨wr.heap.size, 12, none⟩ = some (.int .i64 m7) := cell_row HB5.out
      have f13 : w5.cell? ⟨wr.heap.size, 13, none⟩ = some (.slice am xl.length cm) := cell_row HB5.out
      have f14 : w5.cell? ⟨wr.heap.size, 14, none⟩ = some (.slice ad xd.length cd) := cell_row HB5.out
      clear hQ hek hel4 HEM HC1 HC2 HC3 hc0 d0 e0
      go_wp2_with fail
      go_region_held3 (fun w' => w'.cell? ⟨wr.heap.size, 5, none⟩ = some (.int .i64 m0) ∧ w'.cell? ⟨wr.heap.size, 6, none⟩ = some (.int .i64 m1) ∧ w'.cell? ⟨wr.heap.size, 7, none⟩ = some (.int .i64 m2) ∧ w'.cell? ⟨wr.heap.size, 8, none⟩ = some (.int .i64 m3) ∧ w'.cell? ⟨wr.heap.size, 9, none⟩ = some (.int .i64 m4) ∧ w'.cell? ⟨wr.heap.size, 10, none⟩ = some (.int .i64 m5) ∧ w'.cell? ⟨wr.heap.size, 11, none⟩ = some (.int .i64 m6) ∧ w'.cell? ⟨wr.heap.size, 12, none⟩ = some (.int .i64 m7) ∧ w'.cell? ⟨wr.heap.size, 13, none⟩ = some (.slice am xl.length cm) ∧ w'.cell? ⟨wr.heap.size, 14, none⟩ = some (.slice ad xd.length cd)) (go_keep) (first | (go_at_call 36; go_must (refine HM.out.mono ?_; rintro e w6 ⟨v6, rfl, ho6, hg6, hf6⟩; have HG6 : Hid (w.grownBy w6 none) := Lib.hid (gb_trans (gb_same HG5.out (gb_drew _ _)) hg6 (fun j hj => .inr (HU5.out j hj).1)); have HB6 := Lib.hid (blk_kept' (show w5.drew.heap[wr.heap.size]? = _ from HB5.out) hg6 (fun e => (HU5.out _ e).2 rfl)); have HC6 := Lib.hid (HBY.out v6 w6 ho6 HG6.out); have HU6 : Hid (∀ j, v6.ownBlock = some j → w.heap.size ≤ j ∧ j ≠ wr.heap.size) := Lib.hid (fun j hj => ⟨(ho6.lt j hj).1, fun e => by rcases hf6 j hj with h9 | h9; exact (HU5.out _ h9).2 e; exact absurd (show w5.heap.size ≤ j from h9) (by omega)⟩); have g5 : w6.cell? ⟨wr.heap.size, 5, none⟩ = some (.int .i64 m0) := cell_row HB6.out; have g6 : w6.cell? ⟨wr.heap.size, 6, none⟩ = some (.int .i64 m1) := cell_row HB6.out; have g7 : w6.cell? ⟨wr.heap.size, 7, none⟩ = some (.int .i64 m2) := cell_row HB6.out; have g8 : w6.cell? ⟨wr.heap.size, 8, none⟩ = some (.int .i64 m3) := cell_row HB6.out; have g9 : w6.cell? ⟨wr.heap.size, 9, none⟩ = some (.int .i64 m4) := cell_row HB6.out; have g10 : w6.cell? ⟨wr.heap.size, 10, none⟩ = some (.int .i64 m5) := cell_row HB6.out; have g11 : w6.cell? ⟨wr.heap.size, 11, none⟩ = some (.int .i64 m6) := cell_row HB6.out; have g12 : w6.cell? ⟨wr.heap.size, 12, none⟩ = some (.int .i64 m7) := cell_row HB6.out; have g13 : w6.cell? ⟨wr.heap.size, 13, none⟩ = some (.slice am xl.length cm) := cell_row HB6.out; have g14 : w6.cell? ⟨wr.heap.size, 14, none⟩ = some (.slice ad xd.length cd) := cell_row HB6.out; clear ho6 hg6 hf6)) | (go_at_call 21; go_must (refine HC6.out.mono ?_; rintro e w7 ⟨v7, rfl, ho7, hg7, hf7⟩; have HG7 : Hid (w.grownBy w7 none) := Lib.hid (gb_trans HG6.out hg7 (fun j hj => .inr (HU6.out j hj).1)); have HB7 := Lib.hid (blk_kept' HB6.out hg7 (fun e => (HU6.out _ e).2 rfl)); have HO7 := Lib.hid ho7; have h5 : w7.cell? ⟨wr.heap.size, 5, none⟩ = some (.int .i64 m0) := cell_row HB7.out; have h6 : w7.cell? ⟨wr.heap.size, 6, none⟩ = some (.int .i64 m1) := cell_row HB7.out; have h7 : w7.cell? ⟨wr.heap.size, 7, none⟩ = some (.int .i64 m2) := cell_row HB7.out; have h8 : w7.cell? ⟨wr.heap.size, 8, none⟩ = some (.int .i64 m3) := cell_row HB7.out; have h9 : w7.cell? ⟨wr.heap.size, 9, none⟩ = some (.int .i64 m4) := cell_row HB7.out; have h10 : w7.cell? ⟨wr.heap.size, 10, none⟩ = some (.int .i64 m5) := cell_row HB7.out; have h11 : w7.cell? ⟨wr.heap.size, 11, none⟩ = some (.int .i64 m6) := cell_row HB7.out; have h12 : w7.cell? ⟨wr.heap.size, 12, none⟩ = some (.int .i64 m7) := cell_row HB7.out; have h13 : w7.cell? ⟨wr.heap.size, 13, none⟩ = some (.slice am xl.length cm) := cell_row HB7.out; have h14 : w7.cell? ⟨wr.heap.size, 14, none⟩ = some (.slice ad xd.length cd) := cell_row HB7.out; clear ho7 hg7 hf7)))
      go_wp2
      refine ⟨⟨i + 1, by go_num, by omega, ?_, HG7.out⟩, by simp [intOf]; omega⟩
      rw [encE_take HXI.out, ← List.append_assoc, HP.out]
      have h9 := HO7.out
      rw [← HQ.out] at h9
      have e9 : P ++ encEE ([k, a, b, c, d], ([m0, m1, m2, m3, m4, m5, m6, m7], xl), xd) = P ++ enc k ++ encL [a, b, c, d] ++ encM [m0, m1, m2, m3] [m4, m5, m6, m7] xl ++ encS xd := by simp [encEE, encMM, encM, encL]
      rw [e9]
      exact h9
    · obtain rfl : i = xs.length := by omega
      rw [List.take_length] at HO
      go_wp2_with (at_builtin; refine app_bytes rfl _ _ rfl w.heap.size (.slice none 0 0) _ [] _ rfl rfl (Own.nil _ _) HO.out.rd HG.out.size (by have := HLEN.out; unfold encEs at this; simp only [List.length_nil]; omega) ?_; go_must (intro v8 w8 ho8 hg8 hf8))
      go_ret
      exact ⟨_, rfl, by simpa [encEs] using ho8, gb_same HG.out hg8⟩
end Go.Proofs.Ytgfopepopcacmaa
