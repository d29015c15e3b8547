/-
  ratoonlaw01.WireInverse: the walk.
-/
import Derived.Test.YtmleeidanbhihaaInvRead
import Derived.Test.YtmleeidanbhihaaData
import Derived.Deep.DeepMust
import Derived.Deep.RegionWith
namespace Go.Proofs.Ytmleeidanbhihaa
open Go.RowKit

def VInv (w : World) (B : Nat) (P : List UInt8) (n : Nat) (f : Nat → List UInt8) (u k : Value) (wr : World) : Prop :=
  ∃ i : Nat, k = .int .i64 (i : Int) ∧ i ≤ n ∧ Own wr B u (P ++ f i) ∧ w.grownBy wr none

theorem own_ne {w wr : World} {B : Nat} {v : Value} {l : List UInt8} (h : Own wr B v l) (hB : w.heap.size ≤ B) {k : Nat} (hk : k < w.heap.size) : v.ownBlock ≠ some k := fun e => by
  have := (h.lt k e).1; omega
theorem gb_own {w wr w1 : World} {B : Nat} {v : Value} {l : List UInt8} (h : w.grownBy wr none) (ho : Own wr B v l) (hB : w.heap.size ≤ B) (k : wr.grownBy w1 v.ownBlock) : w.grownBy w1 none :=
  gb_trans h k (fun j hj => .inr (by have := (ho.lt j hj).1; omega))

theorem maxS {z : ByteArray} (h : z.size ≤ 200) : z.size ≤ maxLen := by simp only [maxLen]; omega
theorem len30 {P : List UInt8} {z : ByteArray} (h : P.length ≤ 30000) (h2 : z.size ≤ 200) : (P ++ encS (bl z)).length ≤ 274877906944 := by
  have := encS_len (bl z); rw [bl_len] at this; rw [List.length_append]; omega
theorem len31 {z : ByteArray} (h2 : z.size ≤ 200) : (bl z).length ≤ 274877906944 := by rw [bl_len]; omega
/-- a value whose row is older, or new in W, has not the row that lies just below W's size -/
theorem fr_new {W : World} {v v' : Value} {n : Nat} (hf : Fr W v v') (hv : ∀ k, v.ownBlock = some k → k < n) (hW : n + 1 ≤ W.heap.size) (e : v'.ownBlock = some n) : False := by
  rcases hf n e with h | h
  · have := hv n h; omega
  · omega

theorem shut_use {K' X : Act → World → Prop} {S : World → Prop} {a : Act} {w : World} (h : Shut (∀ a w, S w → (S w → X a w) → K' a w)) (hs : S w) (hx : S w → X a w) : K' a w := h a w hs hx

def InvPost (w : World) (B : Nat) (l : List UInt8) (e : Ending) (w' : World) : Prop :=
  ∃ v', e = .returned v' ∧ Own w' B v' l ∧ w.grownBy w' none

theorem afterConv (w w4 : World) (v4 : Value) (P : List UInt8) (z : ByteArray) (ho : Own w4 w.heap.size v4 (P ++ encS (bl z))) (hg : w.grownBy w4 none) (hP : P.length ≤ 30000) (hz : z.size ≤ 200) :
    Calls Try.prog 21 #[v4, .slice (some ⟨w4.heap.size, 0, none⟩) z.size (grownCap w4 z.size 0 5)] (Lib.bytesWorld w4 5 z) (InvPost w w.heap.size (P ++ encS (bl z) ++ encS (bl z))) := by
  have hk := gb_bytesW w4 5 z
  refine (wbytes_any v4 _ (Lib.bytesWorld w4 5 z) w.heap.size (P ++ encS (bl z)) (bl z) (ho.grown hk) (rd_bytesW w4 z (maxS hz)) (Nat.le_trans hg.size hk.size) ?_ (len30 hP hz) (len31 hz)).mono ?_
  · intro _ k hk e
    cases hk
    exact absurd (ho.lt _ e).2 (Nat.lt_irrefl _)
  · rintro e w5 ⟨v5, rfl, ho5, hg5, hf5⟩
    exact ⟨v5, rfl, ho5, gb_own (gb_same hg hk) (ho.grown hk) (Nat.le_refl _) hg5⟩

theorem beforeConv (w wr w4 : World) (u v4 : Value) (P : List UInt8) (z : ByteArray) (ho : Own w4 w.heap.size v4 (P ++ encS (bl z))) (hu : ∀ k, u.ownBlock = some k → k < wr.heap.size)
    (hg4 : (Lib.bytesWorld wr 5 z).grownBy w4 u.ownBlock) (hf : Fr (Lib.bytesWorld wr 5 z) u v4) (hg : w.grownBy w4 none) (hP : P.length ≤ 30000) (hz : z.size ≤ 200) :
    Calls Try.prog 21 #[v4, .slice (some ⟨wr.heap.size, 0, none⟩) z.size (grownCap wr z.size 0 5)] w4 (InvPost w w.heap.size (P ++ encS (bl z) ++ encS (bl z))) := by
  have hrd : Rd w4 (.slice (some ⟨wr.heap.size, 0, none⟩) z.size (grownCap wr z.size 0 5)) (bl z) := (rd_bytesW wr z (maxS hz)).kept hg4 (fun k hk e => by cases hk; exact Nat.lt_irrefl _ (hu _ e))
  refine (wbytes_any v4 _ w4 w.heap.size (P ++ encS (bl z)) (bl z) ho hrd hg.size ?_ (len30 hP hz) (len31 hz)).mono ?_
  · intro _ k hk e
    cases hk
    exact fr_new hf hu (by rw [Lib.bytesWorld_size]; omega) e
  · rintro e w5 ⟨v5, rfl, ho5, hg5, hf5⟩
    exact ⟨v5, rfl, ho5, gb_own hg ho (Nat.le_refl _) hg5⟩

set_option maxRecDepth 100000 in
set_option maxHeartbeats 8000000 in
theorem wireInv_any (lv sv rv : Value) (zs : List Int) (ss : List ByteArray) (rb : List UInt8) (w : World) (hl : RdL w lv (ivs zs)) (hs : RdL w sv (svs ss)) (hr : Rd w rv rb)
    (hz : ∀ z ∈ zs, -9223372036854775808 ≤ z ∧ z ≤ 9223372036854775807) (hzl : (zs.length : Int) ≤ 9223372036854775807) (hsl : (ss.length : Int) ≤ 9223372036854775807) (hrl : (rb.length : Int) ≤ 9223372036854775807)
    (hsz : ∀ s ∈ ss, s.size ≤ 9223372036854775807) :
    Calls Try.prog 4 #[lv, sv, rv] w (BoolQ true w) := by
  obtain ⟨al, cl, rfl⟩ := hl.len
  obtain ⟨as', cs', rfl⟩ := hs.len
  obtain ⟨ar, cr, rfl⟩ := hr.len
  have hivl : (ivs zs).length = zs.length := by simp [ivs]
  have hsvl : (svs ss).length = ss.length := by simp [svs]
  rw [hivl] at hl ⊢
  rw [hsvl] at hs ⊢
  have HL := Lib.hid hl
  have HS := Lib.hid hs
  have HR := Lib.hid hr
  have HZ := Lib.hid hz
  have HSZ := Lib.hid hsz
  clear hl hs hr hz hsz hivl hsvl
  by_cases h60 : 60 < zs.length
  · go_enter Try.func4, Try.ntmps4
    go_wp2_with (go_at_call 10; refine (awake_any _).mono ?_; rintro e w0 ⟨rfl, g0⟩)
    go_ret
    exact ⟨rfl, g0⟩
  cases hf : fewB ss with
  | false =>
    go_enter Try.func4, Try.ntmps4
    go_wp2_with (go_at_call 10; refine (awake_any _).mono ?_; rintro e w0 ⟨rfl, g0⟩)
    have HF := Lib.hid (few_any _ w0 ss (HS.out.grown g0) hsl HSZ.out)
    rw [hf] at HF
    go_wp2_with (go_at_call 16; refine HF.out.mono ?_; rintro e w1 ⟨rfl, g1⟩)
    go_ret
    exact ⟨rfl, gb_same g0 g1⟩
  | true =>
  by_cases h300 : 300 < rb.length
  · go_enter Try.func4, Try.ntmps4
    go_wp2_with (go_at_call 10; refine (awake_any _).mono ?_; rintro e w0 ⟨rfl, g0⟩)
    have HF := Lib.hid (few_any _ w0 ss (HS.out.grown g0) hsl HSZ.out)
    rw [hf] at HF
    go_wp2_with (go_at_call 16; refine HF.out.mono ?_; rintro e w1 ⟨rfl, g1⟩)
    go_ret
    exact ⟨rfl, gb_same g0 g1⟩
  have hfew : (∀ s ∈ ss, s.size ≤ 200) ∧ ss.length ≤ 40 := of_decide_eq_true hf
  have H200 := Lib.hid hfew.1
  have h40 := hfew.2
  clear hfew
  go_enter Try.func4, Try.ntmps4
  go_wp2_with (go_at_call 10; refine (awake_any _).mono ?_; rintro e w0 ⟨rfl, g0⟩)
  have HF := Lib.hid (few_any _ w0 ss (HS.out.grown g0) hsl HSZ.out)
  rw [hf] at HF
  go_wp2_with (go_at_call 16; refine HF.out.mono ?_; rintro e w1 ⟨rfl, k1⟩)
  clear HF
  have g1 := gb_same g0 k1
  have HI := Lib.hid (ints_any (.slice none 0 0) _ w1 w.heap.size [] zs HZ.out (Own.nil _ _) (HL.out.grown g1) g1.size (by simp [Value.ownBlock]) (by simp; omega))
  clear g0 k1
  refine HI.out.mono ?_
  rintro e w2 ⟨v2, rfl, ho2, hg2, hf2⟩
  have g2 := gb_same g1 hg2
  clear HI hg2 hf2 g1
  have hlI : (encIs zs).length ≤ 610 := by
    have h1 := encL_len zs
    have h2 := (enc_len (zs.length : Int)).2
    unfold encIs
    rw [List.length_append]
    omega
  have hlS : (encSs ss).length ≤ 8410 := by
    have h1 := encSL_len ss 200 H200.out
    have h2 := (enc_len (ss.length : Int)).2
    have h3 : (200 + 10) * ss.length ≤ (200 + 10) * 40 := Nat.mul_le_mul_left _ h40
    unfold encSs
    rw [List.length_append]
    omega
  go_wp2_with fail
  refine (strings_any v2 _ w2 w.heap.size _ ss 200 H200.out ho2 (HS.out.grown g2) g2.size (fun hne k hk => own_ne ho2 (Nat.le_refl _) (RdL.blk HS.out (by simpa [svs] using hne) k hk)) (by have h3 : (200 + 10) * ss.length ≤ (200 + 10) * 40 := Nat.mul_le_mul_left _ h40; simp only [List.nil_append]; omega) (by omega)).mono ?_
  rintro e w3 ⟨v3, rfl, ho3, hg3, hf3⟩
  have g3 := gb_own g2 ho2 (Nat.le_refl _) hg3
  have hP : ([] : List UInt8) ++ encIs zs ++ encSs ss = encIs zs ++ encSs ss := by simp
  rw [hP] at ho3
  have HO3 := Lib.hid ho3
  have G3 := Lib.hid g3
  have HLI := Lib.hid hlI
  have HLS := Lib.hid hlS
  clear ho2 hg3 hf3 g2 ho3 g3 hP hlI hlS
  go_wp2
  go_loopw [7, 8] (fun u k wr => VInv w w.heap.size (encIs zs ++ encSs ss) zs.length (fun i => lawI (zs.take i)) u k wr) (fun _ k _ => zs.length - (intOf k).toNat)
  case atStart => exact ⟨0, rfl, Nat.zero_le _, by simpa [lawI] using HO3.out, G3.out⟩
  case round =>
    obtain ⟨i, rfl, hi, ho, hg⟩ := hrel
    by_cases hlt : i < zs.length
    · have hzi : zs[i]? = some zs[i] := by simp [hlt]
      obtain ⟨g, off, rfl, hcell0⟩ := HL.out.at (j := i) (x := .int .i64 zs[i]) (by simp [ivs, hlt])
      have hblk : g < w.heap.size := World.block_lt_of_cell? _ _ hcell0
      have hcell : wr.cell? ⟨g, off + i, none⟩ = some (.int .i64 zs[i]) := hg.cell hcell0 (by simp)
      have hrg := HZ.out zs[i] (by simp)
      have hln := lawI_len (zs.take i)
      have hln2 : (zs.take i).length ≤ 60 := by simp; omega
      have hPl : ((encIs zs ++ encSs ss) ++ lawI (zs.take i)).length ≤ 10000 := by
        have := HLI.out; have := HLS.out; simp only [List.length_append]; omega
      have HC := Lib.hid (int_any u7 zs[i] wr.drew w.heap.size ((encIs zs ++ encSs ss) ++ lawI (zs.take i)) hrg.1 hrg.2 (ho.grown (gb_drew _ _)) hg.size (Nat.le_trans hPl (by omega)))
      have HSN := Lib.hid (lawI_snoc hzi)
      have HN := Lib.hid (own_ne ho (Nat.le_refl _) hblk)
      have HO := Lib.hid ho
      have HG := Lib.hid hg
      have HPL := Lib.hid hPl
      clear hzi hcell0 hrg hln hln2 ho hg hPl
      generalize zs[i] = z at *
      have hi0 : (0 : Int) ≤ (i : Int) := Int.natCast_nonneg _
      have hi1 : (i : Int) < (zs.length : Int) := by omega
      go_wp2_with fail
      go_region_held3 (fun w' => w'.cell? ⟨g, off + i, none⟩ = some (.int .i64 z)) (go_keep) (first | (go_at_call 20; go_must (refine HC.out.mono ?_; rintro e w4 ⟨v4, rfl, ho4, hg4, hf4⟩; have d4 : w4.cell? ⟨g, off + i, none⟩ = some (.int .i64 z) := hg4.cell (show wr.drew.cell? _ = _ from hcell) (fun e => HN.out e.symm); have HO4 := Lib.hid ho4; have hg4' : w.grownBy w4 none := gb_own (gb_same HG.out (gb_drew _ _)) (HO.out.grown (gb_drew _ _)) (Nat.le_refl _) hg4; clear ho4 hg4 hf4)) | (go_at_call 19; go_must (refine (wbool_any v4 (decide (z < 0)) w4 w.heap.size _ HO4.out hg4'.size (by have h1 := HPL.out; have h2 := (enc_len z).2; rw [List.length_append]; omega)).mono ?_; rintro e w5 ⟨v5, rfl, ho5, hg5, hf5⟩; have d5 : w5.cell? ⟨g, off + i, none⟩ = some (.int .i64 z) := hg5.cell d4 (fun e => own_ne HO4.out (Nat.le_refl _) hblk e.symm); have HO5 := Lib.hid ho5; have hg5' : w.grownBy w5 none := gb_own hg4' HO4.out (Nat.le_refl _) hg5; clear ho5 hg5 hf5)))
      go_wp2
      exact ⟨⟨i + 1, by go_num, by omega, by show Own _ _ _ (_ ++ lawI (zs.take (i + 1))); rw [HSN.out, ← List.append_assoc, ← List.append_assoc]; exact HO5.out, hg5'⟩, by simp [intOf]; omega⟩
    · have hiz : i = zs.length := by omega
      have HO1 : Hid (Own wr w.heap.size u7 ((encIs zs ++ encSs ss) ++ lawI zs)) := Lib.hid (by have h9 := ho; rw [hiz] at h9; simpa using h9)
      have G1 := Lib.hid hg
      have HLL : Hid ((lawI zs).length ≤ 660) := Lib.hid (by have := lawI_len zs; omega)
      clear ho hg hiz
      go_wp2
      go_loopw [7, 9] (fun u k wr => VInv w w.heap.size ((encIs zs ++ encSs ss) ++ lawI zs) ss.length (fun i => lawS (ss.take i)) u k wr) (fun _ k _ => ss.length - (intOf k).toNat)
      case atStart => exact ⟨0, rfl, Nat.zero_le _, by simpa [lawS] using HO1.out, G1.out⟩
      case round =>
        obtain ⟨i, rfl, hi, ho, hg⟩ := hrel
        by_cases hlt : i < ss.length
        · have hzi : ss[i]? = some ss[i] := by simp [hlt]
          obtain ⟨g, off, rfl, hcell0⟩ := HS.out.at (j := i) (x := .string ss[i]) (by simp [svs, hlt])
          have hblk : g < w.heap.size := World.block_lt_of_cell? _ _ hcell0
          have hcell : wr.cell? ⟨g, off + i, none⟩ = some (.string ss[i]) := hg.cell hcell0 (by simp)
          have hcellB : (Lib.bytesWorld wr.drew 5 ss[i]).cell? ⟨g, off + i, none⟩ = some (.string ss[i]) := (gb_bytesW wr.drew 5 _).cell (show wr.drew.cell? _ = _ from hcell) (by simp)
          have h2s := H200.out ss[i] (by simp)
          have hln := lawS_len (ss.take i) (fun s h => H200.out s (List.mem_of_mem_take h))
          have hln2 : (ss.take i).length ≤ 40 := by simp; omega
          have hPl : ((encIs zs ++ encSs ss ++ lawI zs) ++ lawS (ss.take i)).length ≤ 30000 := by
            have := HLI.out; have := HLS.out; have := HLL.out; simp only [List.length_append]; omega
          have hcv := fun W => run_toBytes W ss[i]
          have HCA := Lib.hid (fun W (hW : wr.grownBy W none) => string_any u7 ss[i] W w.heap.size ((encIs zs ++ encSs ss ++ lawI zs) ++ lawS (ss.take i)) (by omega) (ho.grown hW) (Nat.le_trans hg.size hW.size) (Nat.le_trans hPl (by omega)))
          have HSN := Lib.hid (lawS_snoc hzi)
          have HN := Lib.hid (own_ne ho (Nat.le_refl _) hblk)
          have HLT := Lib.hid (fun k hk => (ho.lt k hk).2)
          have HO := Lib.hid ho
          have HG := Lib.hid hg
          have HPL := Lib.hid hPl
          have H2S := Lib.hid h2s
          clear hzi hcell0 hln hln2 ho hg hPl h2s
          generalize ss[i] = z at *
          have hi0 : (0 : Int) ≤ (i : Int) := Int.natCast_nonneg _
          have hi1 : (i : Int) < (ss.length : Int) := by omega
          go_wp2_with fail
          go_region_with (first | (first | (go_at_call 22; refine (HCA.out _ (gb_drew _ _)).mono ?_; go_must (rintro e w4 ⟨v4, rfl, ho4, hg4, hf4⟩; have d4 : w4.cell? ⟨g, off + i, none⟩ = some (.string z) := hg4.cell (show wr.drew.cell? _ = _ from hcell) (fun e => HN.out e.symm); have HO4 := Lib.hid ho4; have hg4' : w.grownBy w4 none := gb_own (gb_same HG.out (gb_drew _ _)) (HO.out.grown (gb_drew _ _)) (Nat.le_refl _) hg4; have HCB := Lib.hid (afterConv w w4 v4 _ z ho4 hg4' HPL.out H2S.out); clear ho4 hg4 hf4)) | (go_at_call 22; refine (HCA.out _ (gb_same (gb_drew _ _) (gb_bytesW _ _ _))).mono ?_; go_must (rintro e w4 ⟨v4, rfl, ho4, hg4, hf4⟩; have hg4' : w.grownBy w4 none := gb_own (gb_same (gb_same HG.out (gb_drew _ _)) (gb_bytesW _ _ _)) (HO.out.grown (gb_same (gb_drew _ _) (gb_bytesW _ _ _))) (Nat.le_refl _) hg4; have HO4 := Lib.hid ho4; have d4 : w4.cell? ⟨g, off + i, none⟩ = some (.string z) := hg4.cell hcellB (fun e => HN.out e.symm); have HCB := Lib.hid (beforeConv w wr.drew w4 u7 v4 _ z ho4 HLT.out hg4 hf4 hg4' HPL.out H2S.out); clear ho4 hg4 hf4))) | ((go_at_call 21; go_must (refine HCB.out.mono ?_; rintro e w5 ⟨v5, rfl, ho5, hg5'⟩; have HO5 := Lib.hid ho5; clear ho5))) | (fail))
          all_goals go_wp2
          all_goals exact ⟨⟨i + 1, by go_num, by omega, by show Own _ _ _ (_ ++ lawS (ss.take (i + 1))); rw [HSN.out, ← List.append_assoc, ← List.append_assoc]; exact HO5.out, hg5'⟩, by simp [intOf]; omega⟩
        · have hiz : i = ss.length := by omega
          have HO2 : Hid (Own wr w.heap.size u7 ((encIs zs ++ encSs ss ++ lawI zs) ++ lawS ss)) := Lib.hid (by have h9 := ho; rw [hiz] at h9; simpa using h9)
          have HG2 := Lib.hid hg
          have HLM : Hid ((lawS ss).length ≤ 16800) := Lib.hid (by have := lawS_len ss H200.out; omega)
          obtain ⟨bs, HBS⟩ : ∃ bs, Hid (((encIs zs ++ encSs ss ++ lawI zs) ++ lawS ss) ++ rb = bs) := ⟨_, Lib.hid rfl⟩
          have HXL : Hid (((encIs zs ++ encSs ss ++ lawI zs) ++ lawS ss).length ≤ 1099511627776) := Lib.hid (by have := HLI.out; have := HLS.out; have := HLL.out; have := HLM.out; simp only [List.length_append]; omega)
          have HBL : Hid (bs.length ≤ 1099511627776) := Lib.hid (by have := HLI.out; have := HLS.out; have := HLL.out; have := HLM.out; rw [← HBS.out]; simp only [List.length_append]; omega)
          have HD0 : Hid (bs.drop 0 = encIs zs ++ (encSs ss ++ (lawI zs ++ (lawS ss ++ rb)))) := Lib.hid (by rw [← HBS.out]; simp only [List.drop_zero, List.append_assoc])
          have HD1 := Lib.hid (drop_next HD0.out)
          have HD2 := Lib.hid (drop_next HD1.out)
          have HJ := Lib.hid (joined_bs w wr bs u7 (.slice ar rb.length cr) _ rb HO2.out.rd (HR.out.grown HG2.out) HXL.out (by omega) HBS.out HG2.out)
          have HS1 : Hid (∀ s ∈ ss, s.size ≤ 1099511627776) := Lib.hid (fun s h => Nat.le_trans (H200.out s h) (by omega))
          have hz1 : zs.length ≤ 1099511627776 := by omega
          have hs1 : ss.length ≤ 1099511627776 := by omega
          clear ho hg hiz
          go_wp2_with (first | (go_at_call 23; refine HJ.out.mono ?_; go_must (rintro e w4 ⟨v4, rfl, hr4, hg4⟩; have HR4 := Lib.hid hr4; clear hr4)) | (go_at_call 11; refine (read_bs w w4 bs v4 HR4.out HBL.out hg4).mono ?_; go_must (rintro e w5 ⟨b0, sl, rfl, hb0, hr5, hg5⟩; have HR5 := Lib.hid hr5; clear hr5)) | (go_at_call 25; refine (ints_at w w5 b0 sl bs _ 0 zs hb0 HR5.out hg5 HZ.out hz1 HD0.out).mono ?_; go_must (rintro e w6 ⟨v6, rfl, hl6, hr6, hg6⟩; have HL6 := Lib.hid hl6; have HR6 := Lib.hid hr6; clear hl6 hr6)) | (go_at_call 24; refine (sameInts_true v6 _ w6 zs HL6.out (HL.out.grown hg6) hzl).mono ?_; go_must (rintro e w7 ⟨rfl, hg7⟩; have HR7 := Lib.hid (HR6.out.grown hg7); have hg7' := gb_same hg6 hg7; clear hg7)) | (go_at_call 27; refine (strs_at w w7 b0 sl bs _ _ ss hb0 HR7.out hg7' HS1.out hs1 HD1.out).mono ?_; go_must (rintro e w8 ⟨v8, rfl, hl8, hr8, hg8⟩; have HL8 := Lib.hid hl8; have HR8 := Lib.hid hr8; clear hl8 hr8)) | (go_at_call 26; refine (sameStrs_true v8 _ w8 ss HL8.out (HS.out.grown hg8) hsl).mono ?_; go_must (rintro e w9 ⟨rfl, hg9⟩; have HR9 := Lib.hid (HR8.out.grown hg9); have HG9 := Lib.hid (gb_same hg8 hg9); clear hg9)))
          clear HR4 hg4 HR5 hg5 HR6 HL6 hg6 HR7 hg7' HL8 HR8 hg8 HD0 HD1 HXL HBS HO2 HG2 HJ
          go_loopw [11] (fun k wr => RInv w b0 sl bs zs.length (fun i => lawI (zs.drop i) ++ (lawS ss ++ rb)) k wr) (fun k _ => zs.length - (intOf k).toNat)
          case atStart => exact ⟨0, _, rfl, Nat.zero_le _, HR9.out, HD2.out, HG9.out⟩
          case round =>
            obtain ⟨i, p, rfl, hi, hr, hd, hg⟩ := hrel
            by_cases hlt : i < zs.length
            · have hzi : zs[i]? = some zs[i] := by simp [hlt]
              obtain ⟨g, off, rfl, hcell0⟩ := HL.out.at (j := i) (x := .int .i64 zs[i]) (by simp [ivs, hlt])
              have hcell : wr.cell? ⟨g, off + i, none⟩ = some (.int .i64 zs[i]) := hg.cell hcell0 (by simp)
              have hrg := HZ.out zs[i] (by simp)
              simp only [lawI_cons hzi, List.append_assoc] at hd
              have hd2 := drop_next hd
              have HC := Lib.hid (bounded_at w wr.drew b0 sl bs _ p zs[i] hb0 (hr.grown (gb_drew _ _)) (gb_same hg (gb_drew _ _)) hrg.1 hrg.2 hd)
              have hd3 := drop_next hd2
              rw [show (encB (decide (zs[i] < 0))).length = 1 by unfold encB; split <;> rfl] at hd3
              have HE2 := Lib.hid hd2
              have HE3 := Lib.hid hd3
              have HC0 := Lib.hid hcell0
              clear hzi hrg hd hd2 hd3 hr hg hcell0
              generalize zs[i] = z at *
              have hi0 : (0 : Int) ≤ (i : Int) := Int.natCast_nonneg _
              have hi1 : (i : Int) < (zs.length : Int) := by omega
              go_wp2_with fail
              go_region_held3 (fun w' => w'.cell? ⟨g, off + i, none⟩ = some (.int .i64 z)) (go_keep) (first | (go_at_call 28; go_must (refine HC.out.mono ?_; rintro e w4 ⟨rfl, hr4, hg4⟩; have d4 : w4.cell? ⟨g, off + i, none⟩ = some (.int .i64 z) := hg4.cell HC0.out (by simp); have HR4 := Lib.hid hr4; clear hr4)) | (go_at_call 29; go_must (refine (bool_at w w4 b0 sl bs _ _ (decide (z < 0)) hb0 HR4.out hg4 HE2.out).mono ?_; rintro e w5 ⟨rfl, hr5, hg5⟩; have d5 : w5.cell? ⟨g, off + i, none⟩ = some (.int .i64 z) := hg5.cell HC0.out (by simp); have HR5 := Lib.hid hr5; clear hr5)))
              go_wp2
              exact ⟨⟨i + 1, _, by go_num, by omega, HR5.out, HE3.out, hg5⟩, by simp [intOf]; omega⟩
            · have hiz : i = zs.length := by omega
              have HE : Hid (bs.drop p = lawS ss ++ rb) := Lib.hid (by have h9 := hd; rw [hiz] at h9; simpa [lawI] using h9)
              have HRR := Lib.hid hr
              have HGG := Lib.hid hg
              clear hd hr hg hiz
              go_wp2
              go_loopw [12] (fun k wr => RInv w b0 sl bs ss.length (fun i => lawS (ss.drop i) ++ rb) k wr) (fun k _ => ss.length - (intOf k).toNat)
              case atStart => exact ⟨0, _, rfl, Nat.zero_le _, HRR.out, HE.out, HGG.out⟩
              case round =>
                obtain ⟨i, p, rfl, hi, hr, hd, hg⟩ := hrel
                by_cases hlt : i < ss.length
                · have hzi : ss[i]? = some ss[i] := by simp [hlt]
                  obtain ⟨g, off, rfl, hcell0⟩ := HS.out.at (j := i) (x := .string ss[i]) (by simp [svs, hlt])
                  have hcell : wr.cell? ⟨g, off + i, none⟩ = some (.string ss[i]) := hg.cell hcell0 (by simp)
                  have h1s := HS1.out ss[i] (by simp)
                  simp only [lawS_cons hzi, List.append_assoc] at hd
                  have hd2 := drop_next hd
                  have HC := Lib.hid (str_at w wr.drew b0 sl bs _ p ss[i] hb0 (hr.grown (gb_drew _ _)) (gb_same hg (gb_drew _ _)) h1s hd)
                  have HE2 := Lib.hid hd2
                  have HE3 := Lib.hid (drop_next hd2)
                  have HC0 := Lib.hid hcell0
                  have H1S := Lib.hid h1s
                  clear hzi hd hd2 hr hg hcell0 h1s
                  generalize ss[i] = z at *
                  have hi0 : (0 : Int) ≤ (i : Int) := Int.natCast_nonneg _
                  have hi1 : (i : Int) < (ss.length : Int) := by omega
                  go_wp2_with fail
                  go_region_held3 (fun w' => w'.cell? ⟨g, off + i, none⟩ = some (.string z)) (go_keep) (first | (go_at_call 30; go_must (refine HC.out.mono ?_; rintro e w4 ⟨rfl, hr4, hg4⟩; have d4 : w4.cell? ⟨g, off + i, none⟩ = some (.string z) := hg4.cell HC0.out (by simp); have HR4 := Lib.hid hr4; clear hr4)) | (go_at_call 31; go_must (refine (bytes_at w w4 b0 sl bs _ _ z hb0 HR4.out hg4 H1S.out HE2.out).mono ?_; rintro e w5 ⟨v5, rfl, hcv, hr5, hg5⟩; have d5 : w5.cell? ⟨g, off + i, none⟩ = some (.string z) := hg5.cell HC0.out (by simp); have HR5 := Lib.hid hr5; clear hr5; refine Or.elim (Classical.em (∀ W : World, (convert 22 9 v5).run Try.prog W = .ok (.string z) W)) (fun hP => ?pos) (fun _ => ?neg); case neg => (dsimp only; refine' shut_use ?hh ?hs ?hx; (case hh => assumption); (case hs => exact d5); (case' hx => intro hHeld1); (try simp only [List.getElem_toArray, List.getElem_cons_succ, List.getElem_cons_zero, Act.put, List.setIfInBounds_toArray, List.set_cons_zero, List.set_cons_succ]); refine wpAnyH_ready (rs := [20]) (by kernel_rfl) (by simp) ?_; refine AllReadyH.cons rfl (fun K2 hK2 => ?_) AllReadyH.nil; go_simp; refine hK2.out _ _ d5 (fun hHeld2 => ?_); (try simp only [List.getElem_toArray, List.getElem_cons_succ, List.getElem_cons_zero, Act.put, List.setIfInBounds_toArray, List.set_cons_zero, List.set_cons_succ]); refine wpAnyH_take (i := 25) (v := ?_) rfl (by kernel_rfl) (by kernel_rfl) (by kernel_rfl) (fun _ _ _ h => h) (Or.inl ⟨by rfl, ?_⟩) (by assumption) ?_; rotate_left 1; (focus (intro w hSw; go_simp; try with_reducible rfl)); (try simp only [List.getElem_toArray, List.getElem_cons_succ, List.getElem_cons_zero, Act.put, List.setIfInBounds_toArray, List.set_cons_zero, List.set_cons_succ]); refine wpAnyH_take (i := 26) (v := ?_) rfl (by kernel_rfl) (by kernel_rfl) (by kernel_rfl) (fun _ _ _ h => h) (Or.inl ⟨by rfl, ?_⟩) (by assumption) ?_; rotate_left 1; (focus (intro w hSw; go_simp; try with_reducible rfl)); (try simp only [List.getElem_toArray, List.getElem_cons_succ, List.getElem_cons_zero, Act.put, List.setIfInBounds_toArray, List.set_cons_zero, List.set_cons_succ]); refine wpAnyH_done (by kernel_rfl) ?_ _; clear hK2 K2; rename Shut _ => hSh; clear hSh; refine NoPanic.normal ?_; go_wp2; exact ⟨⟨i + 1, _, by go_num, by omega, HR5.out, HE3.out, hg5⟩, by simp [intOf] <;> omega⟩))))
                  go_wp2
                  exact ⟨⟨i + 1, _, by go_num, by omega, HR5.out, HE3.out, hg5⟩, by simp [intOf] <;> omega⟩
                · have hiz : i = ss.length := by omega
                  have HF : Hid (bs.drop p = rb) := Lib.hid (by have h9 := hd; rw [hiz] at h9; simpa [lawS] using h9)
                  have HCL := Lib.hid (left_at w wr b0 sl bs rb p hr hg HF.out)
                  clear hd hr hg hiz
                  by_cases h0 : rb.length = 0
                  · have h1 : (rb.length : Int) = 0 := by omega
                    go_wp2_with (first | (go_at_call 13; refine HCL.out.mono ?_; go_must (rintro e w4 ⟨rfl, hr4, hg4⟩; have HR4 := Lib.hid hr4; clear hr4)) | (go_at_call 14; refine (end_at w w4 b0 sl bs rb p HR4.out hg4 HF.out).mono ?_; go_must (rintro e w5 ⟨rfl, hr5, hg5⟩; have h2 : (if 0 < rb.length then (4 : Int) else 0) = 0 := if_neg (fun h => absurd (h0 ▸ h) (Nat.lt_irrefl _)); clear hr5)))
                    go_ret
                    exact ⟨rfl, hg5⟩
                  · have h1 : ¬ (rb.length : Int) = 0 := by omega
                    go_wp2_with (first | (go_at_call 13; refine HCL.out.mono ?_; go_must (rintro e w4 ⟨rfl, hr4, hg4⟩; have HR4 := Lib.hid hr4; clear hr4)) | (go_at_call 14; refine (end_at w w4 b0 sl bs rb p HR4.out hg4 HF.out).mono ?_; go_must (rintro e w5 ⟨rfl, hr5, hg5⟩; have h2 : (if 0 < rb.length then (4 : Int) else 0) = 4 := if_pos (Nat.pos_of_ne_zero h0); clear hr5)))
                    go_ret
                    refine ⟨?_, hg5⟩
                    show Ending.returned (.bool (!((rb.length : Int) == 0))) = _
                    simp [show ¬ rb = [] from fun e => h0 (by rw [e]; rfl)]
end Go.Proofs.Ytmleeidanbhihaa
