/-
  law.RingParts: the walk.
-/
import Derived.Test.YtjidkaeglhfajaaREncB
import Derived.Test.YtjidkaeglhfajaaROrd
import Derived.Test.YtjidkaeglhfajaaRTwo
namespace Go.Proofs.Ytjidkaeglhfajaa
open Go.RowKit Go.Shelf

theorem wp_cut {c : Code} {Q : Exit → Act → World → Prop} {a : Act} {w : World} (P : Act → Exit → Act → World → Prop) (h1 : Code.wp Try.prog c (P a) a w) (h2 : ∀ e a' w', P a e a' w' → Q e a' w') : Code.wp Try.prog c Q a w :=
  Code.wp_mono h2 h1
theorem put_two (n : Nat) (a b : List UInt8) : a.take (putN n [] a) ++ b.take (putN n (a.take (putN n [] a)) b) = (a ++ b).take (putN n [] (a ++ b)) ∧ putN n [] a + putN n (a.take (putN n [] a)) b = putN n [] (a ++ b) := by
  have h1 : (a.take (putN n [] a)).length = putN n [] a := by rw [List.length_take]; unfold putN; omega
  have e1 : putN n [] a = min a.length n := by unfold putN; simp
  have e2 : putN n (a.take (putN n [] a)) b = min b.length (n - min a.length n) := by unfold putN at h1 ⊢; rw [h1]; simp
  have e3 : putN n [] (a ++ b) = min (a.length + b.length) n := by unfold putN; simp
  rw [e2, e3, e1]
  refine ⟨?_, by omega⟩
  rw [List.take_append]
  rcases Nat.le_total a.length n with h | h
  · rw [show min a.length n = a.length by omega, List.take_length, List.take_of_length_le (l := a) (by omega), show min (a.length + b.length) n - a.length = min b.length (n - a.length) by omega]
  · rw [show min a.length n = n by omega, show min b.length (n - n) = 0 by omega, show min (a.length + b.length) n = n by omega, show n - a.length = 0 by omega]
theorem app_bytesW_op {o : Oper} {a : Act} {w : World} {K : Act → World → Prop} {Q : Exit → Act → World → Prop} (s x : Operand)
    (ho : o.op = .call { callee := .builtin .append, args := #[s, x], argTypes := #[22, 22] })
    (B : Nat) (v src : Value) (l m : List UInt8) (hs : a.eval s = v) (hx : a.eval x = src) (hown : Own w B v l) (hsrc : RdW w src m) (hB : B ≤ w.heap.size) (hb : l.length + m.length ≤ 140737488355328)
    (hK : ∀ v' w', Own w' B v' (l ++ m) → w.grownBy w' v.ownBlock → Fr w v v' → K (a.put o.dst v') w') : Oper.wp Try.prog o a w K Q := by
  obtain ⟨v', w', hr, h2, h3, h4⟩ := run_appW w B v src l m o.type hown hsrc hB hb
  unfold Oper.wp execOp
  simp only [ho, resolve, invoke, builtin, Sem.run_bind, Sem.run_pure, Result.andThen_ok, List.map_toArray, List.map_cons, List.map_nil, hs, hx, hr]
  exact hK v' w' h2 h3 h4
theorem row3 {w : World} {g : Nat} {x0 x1 x2 : Value} {T : TypeId} (h : w.heap[g]? = some (.cells #[x0, x1, x2] T (0, 0))) : w.cell? ⟨g, 0, none⟩ = some x0 ∧ w.cell? ⟨g, 1, none⟩ = some x1 ∧ w.cell? ⟨g, 2, none⟩ = some x2 := ⟨cell_row h, cell_row h, cell_row h⟩
set_option maxRecDepth 100000 in
set_option maxHeartbeats 4000000 in
theorem ringParts_any (va vb : Value) (a b : List UInt8) (x y z : UInt8) (w : World) (ha : RdW w va a) (hb : RdW w vb b) :
    Calls Try.prog 9 #[va, vb, .agg #[.int .u8 (x.toNat : Int), .int .u8 (y.toNat : Int), .int .u8 (z.toNat : Int)]] w (BoolQ true w) := by
  have hsa := ha.small
  have hsb := hb.small
  have hx := x.toNat_lt
  have hy := y.toNat_lt
  have hz := z.toNat_lt
  have HA := Lib.hid awake_any
  obtain ⟨aa, ca, rfl⟩ := ha.len
  obtain ⟨ab, cb, rfl⟩ := hb.len
  have HVA := Lib.hid ha
  have HVB := Lib.hid hb
  clear ha hb
  have hN : ((1 + x.toNat : Nat) : Int) = 1 + (x.toNat : Int) := by omega
  have HNN := Lib.hid (fun w => newB_any (1 + x.toNat) w (by omega) (by omega))
  have HNL : Hid (1 + x.toNat ≤ 256) := Lib.hid (by omega)
  rw [hN] at HNN
  generalize hM : 1 + x.toNat = N at *
  have HM := Lib.hid hM
  clear hM hN
  go_enter Try.func9, Try.ntmps9
  go_wp2_with fail
  refine (HA.out _).mono ?_
  rintro e w1 ⟨rfl, hg1⟩
  have HG1 := Lib.hid (gb_same (gb_alloc _ _ _) hg1)
  have HB1 := Lib.hid (blk_kept (heap_at_alloc w _) hg1)
  clear hg1
  obtain ⟨t0, t1, t2⟩ := row3 HB1.out
  go_wp2_with fail
  refine (HNN.out _).mono ?_
  rintro e w2 ⟨g1, s1, rfl, hg, hs, hg2, hq2⟩
  have HG2 := Lib.hid (gb_same HG1.out hg2)
  have HB2 := Lib.hid (blk_kept HB1.out hg2)
  have hsz := HG1.out.size
  have HP2 := Lib.hid (show w.heap.size < g1 ∧ w.heap.size < s1 ∧ g1 < w2.heap.size ∧ s1 < w2.heap.size ∧ w.heap.size < w2.heap.size from (by
    have := lt_of_blk HB1.out
    have := hq2.lt
    omega))
  have HQ2 := Lib.hid hq2
  clear hg2 hq2 hg hs hsz t0 t1 t2
  go_wp2_with fail
  refine (HNN.out _).mono ?_
  rintro e w3 ⟨g2, s2, rfl, hg, hs, hg3, hq3⟩
  have HG3 := Lib.hid (gb_same HG2.out hg3)
  have HB3 := Lib.hid (blk_kept HB2.out hg3)
  have HP3 := Lib.hid (show w2.heap.size ≤ g2 ∧ w2.heap.size ≤ s2 ∧ g2 < w3.heap.size ∧ s2 < w3.heap.size from ⟨hg, hs, hq3.lt.1, hq3.lt.2⟩)
  have HQ3 := Lib.hid hq3
  have HR3 := Lib.hid (HQ2.out.grown hg3)
  have HA3 := Lib.hid (HVA.out.grown HG3.out)
  have HV3 := Lib.hid (HVB.out.grown HG3.out)
  clear hg3 hq3 hg hs HNN
  by_cases hla : 200 < a.length
  · have hla' : (200 : Int) < (a.length : Int) := by omega
    clear hla
    go_wp2
    go_ret
    exact ⟨rfl, HG3.out⟩
  · have hla' : ¬ (200 : Int) < (a.length : Int) := by omega
    by_cases hlb : 200 < b.length
    · have hlb' : (200 : Int) < (b.length : Int) := by omega
      clear hlb hla
      go_wp2
      go_ret
      exact ⟨rfl, HG3.out⟩
    · have hlb' : ¬ (200 : Int) < (b.length : Int) := by omega
      have HLA : Hid (a.length ≤ 200) := Lib.hid (by omega)
      have HLB : Hid (b.length ≤ 200) := Lib.hid (by omega)
      clear hlb hla
      have HO := Lib.hid (Own.lit w3 #[] [] 0 w3.heap.size rfl rfl (Nat.le_refl _) (Nat.zero_le _))
      go_wp2_with (at_builtin; first | (refine app_bytesW rfl _ _ rfl w3.heap.size _ _ [] a rfl rfl HO.out (HA3.out.grown (gb_alloc _ _ _)) (by simp) (by have := HLA.out; simp; omega) ?_; go_must (intro v4 w4 ho4 hg4 hf4; rw [List.nil_append] at ho4; have HO4 := Lib.hid ho4; have HG4 : Hid (w3.grownBy w4 none) := Lib.hid (gb_trans (gb_alloc _ _ none) hg4 (fun k hk => .inr (HO.out.lt k hk).1)); clear ho4 hg4 hf4)) | (refine app_bytesW rfl _ _ rfl w3.heap.size _ _ a b rfl rfl HO4.out (HV3.out.grown HG4.out) HG4.out.size (by have := HLA.out; have := HLB.out; omega) ?_; go_must (intro v5 w5 ho5 hg5 hf5; have HO5 := Lib.hid ho5; have HG5 : Hid (w3.grownBy w5 none) := Lib.hid (gb_trans HG4.out hg5 (fun k hk => .inr (HO4.out.lt k hk).1)); clear ho5 hg5 hf5)))
      have HAB := Lib.hid (put_two N a b)
      generalize hcc : a ++ b = c at HO5 HAB
      have hlc : c.length ≤ 400 := by rw [← hcc, List.length_append]; omega
      clear hcc
      obtain ⟨a5, c5, hv5⟩ := HO5.out.rd.len
      subst hv5
      have HG5' := Lib.hid (gb_same HG3.out HG5.out)
      have hr5 := HR3.out.grown HG5.out
      have HQ5 := Lib.hid (HQ3.out.grown HG5.out)
      have HB5 := Lib.hid (blk_kept HB3.out HG5.out)
      have HNA : Hid (∀ W : World, ∀ l : List UInt8, ∀ v : Value, RdW w v l → l ≠ [] → ∀ k, v.ownBlock = some k → k ≠ g1 ∧ k ≠ s1) := Lib.hid (fun _ l v hv hl k hk => by have := hv.blk hl k hk; have := HP2.out; omega)
      refine (put_any hr5 _ a (HVA.out.grown HG5'.out) (HNA.out w a _ HVA.out)).mono ?_
      rintro e w6 ⟨rfl, hk6, cs6, hq6⟩
      rw [List.nil_append] at hq6
      have HG6 := Lib.hid (K2.new HG5'.out (by have := HP2.out; omega) (by have := HP2.out; omega) hk6)
      have HQ6 := Lib.hid (HQ5.out.k2 hk6 (by have := HP2.out; have := HP3.out; omega) (by have := HP2.out; have := HP3.out; omega) (by have := HP2.out; have := HP3.out; omega) (by have := HP2.out; have := HP3.out; omega))
      have HO6 := Lib.hid (K2.own HO5.out hk6 (fun j hj => by have := (HO5.out.lt j hj).1; have := HP2.out; have := HP3.out; omega))
      have HB6 := Lib.hid ((hk6.block _ (lt_of_blk HB5.out) (by have := HP2.out; omega) (by have := HP2.out; omega)).trans HB5.out)
      have HR6 := Lib.hid hq6
      have hm1 := putN_le N [] a
      clear hk6 hq6 hr5
      go_wp2_with fail
      refine (put_any HR6.out _ b (HVB.out.grown HG6.out) (HNA.out w b _ HVB.out)).mono ?_
      rintro e w7 ⟨rfl, hk7, cs7, hq7⟩
      have hm2 := putN_le N (a.take (putN N [] a)) b
      have HG7 := Lib.hid (K2.new HG6.out (by have := HP2.out; omega) (by have := HP2.out; omega) hk7)
      have HQ7 := Lib.hid (HQ6.out.k2 hk7 (by have := HP2.out; have := HP3.out; omega) (by have := HP2.out; have := HP3.out; omega) (by have := HP2.out; have := HP3.out; omega) (by have := HP2.out; have := HP3.out; omega))
      have HO7 := Lib.hid (K2.own HO6.out hk7 (fun j hj => by have := (HO6.out.lt j hj).1; have := HP2.out; have := HP3.out; omega))
      have HB7 := Lib.hid ((hk7.block _ (lt_of_blk HB6.out) (by have := HP2.out; omega) (by have := HP2.out; omega)).trans HB6.out)
      rw [HAB.out.1] at hq7
      have HR7 := Lib.hid hq7
      have hms := HAB.out.2
      generalize putN N (a.take (putN N [] a)) b = m2 at *
      generalize putN N [] a = m1 at *
      clear hk7 hq7
      go_wp2_with fail
      refine (put_any HQ7.out _ c HO7.out.rd.w (fun _ k hk => by have := (HO7.out.lt k hk).1; have := HP3.out; omega)).mono ?_
      rintro e w8 ⟨rfl, hk8, cs8, hq8⟩
      rw [List.nil_append] at hq8
      have HG8 := Lib.hid (K2.new HG7.out (by have := HP2.out; have := HP3.out; omega) (by have := HP2.out; have := HP3.out; omega) hk8)
      have HR8 := Lib.hid (HR7.out.k2 hk8 (by have := HP2.out; have := HP3.out; omega) (by have := HP2.out; have := HP3.out; omega) (by have := HP2.out; have := HP3.out; omega) (by have := HP2.out; have := HP3.out; omega))
      have HB8 := Lib.hid ((hk8.block _ (lt_of_blk HB7.out) (by have := HP2.out; have := HP3.out; omega) (by have := HP2.out; have := HP3.out; omega)).trans HB7.out)
      have HQ8 := Lib.hid hq8
      generalize putN N [] c = m3 at *
      generalize List.take m3 c = L at *
      have hne : ((m1 : Int) + (m2 : Int) != (m3 : Int)) = false := by simp; omega
      have hm1' : (m1 : Int) ≤ 200 := by omega
      have hm2' : (m2 : Int) ≤ 200 := by omega
      clear hk8 hq8 hms HAB hm1 hm2
      go_wp2_with fail
      refine (encodeB_any HR8.out).mono ?_
      rintro e w9 ⟨v9, rfl, ho9, hg9⟩
      have HE9 := Lib.hid ho9
      have HG9 := Lib.hid (gb_same HG8.out hg9)
      have HR9 := Lib.hid (HR8.out.grown hg9)
      have HQ9 := Lib.hid (HQ8.out.grown hg9)
      have HB9 := Lib.hid (blk_kept HB8.out hg9)
      clear hg9 ho9
      go_wp2_with fail
      refine (encodeB_any HQ9.out).mono ?_
      rintro e w10 ⟨v10, rfl, ho10, hg10⟩
      have HE10 := Lib.hid ho10
      have HF10 := Lib.hid (HE9.out.grown hg10)
      have HG10 := Lib.hid (gb_same HG9.out hg10)
      have HR10 := Lib.hid (HR9.out.grown hg10)
      have HQ10 := Lib.hid (HQ9.out.grown hg10)
      have HB10 := Lib.hid (blk_kept HB9.out hg10)
      clear hg10 ho10
      go_wp2_with fail
      refine (same_gW _ _ w10 (encQ N L) HF10.out.rd.w HE10.out.rd.w).mono ?_
      rintro e w11 ⟨rfl, hg11⟩
      have HG11 := Lib.hid (gb_same HG10.out (gb_same hg11 (gb_drew _ _)))
      have HR11 := Lib.hid (HR10.out.grown (gb_same hg11 (gb_drew _ _)))
      have HQ11 := Lib.hid (HQ10.out.grown (gb_same hg11 (gb_drew _ _)))
      have HB11 := Lib.hid (blk_kept HB10.out (gb_same hg11 (gb_drew _ _)))
      clear hg11
      go_wp2_with fail
      refine region_KL (fuel := 14) (listed := #[false, false, false, false, false, false, false, false, false, false, false, false, false, false]) (fun X => X.heap[w.heap.size]? = some (.cells #[.int .u8 (x.toNat : Int), .int .u8 (y.toNat : Int), .int .u8 (z.toNat : Int)] 81 (0, 0))) 13 (by kernel_rfl) rfl (by kernel_rfl) ?_
      generalize w11.drew = w12 at *
      have hwy : IntKind.i64.wrap (y.toNat : Int) = (y.toNat : Int) := by rw [IntKind.wrap_i64] <;> omega
      have hwz : IntKind.i64.wrap (z.toNat : Int) = (z.toNat : Int) := by rw [IntKind.wrap_i64] <;> omega
      refine wpAnyK_takeL (i := 1) (d := 78) (v := ?_) (T' := ?_) (listed' := #[false, true, false, false, false, false, false, false, false, false, false, false, false, false]) rfl rfl (by kernel_rfl) (fun _ _ _ h => h) rfl (Or.inl ⟨by rfl, ?_⟩) ?_ HB11.out ?_
      rotate_left 2
      · intro w hS; clear hS; go_simp; rfl
      · simp only [List.setIfInBounds_toArray, List.set_cons_succ, List.set_cons_zero]; rfl
      refine wpAnyK_takeL (i := 2) (d := 79) (v := ?_) (T' := ?_) (listed' := #[false, true, true, false, false, false, false, false, false, false, false, false, false, false]) rfl rfl (by kernel_rfl) (fun _ _ _ h => h) rfl (Or.inl ⟨by rfl, ?_⟩) ?_ HB11.out ?_
      rotate_left 2
      · intro w hS; clear hS; go_simp; rfl
      · simp only [List.setIfInBounds_toArray, List.set_cons_succ, List.set_cons_zero]; rfl
      refine wpAnyK_takeL (i := 3) (d := 80) (v := ?_) (T' := ?_) (listed' := #[false, true, true, true, false, false, false, false, false, false, false, false, false, false]) rfl rfl (by kernel_rfl) (fun _ _ _ h => h) rfl (Or.inl ⟨by rfl, ?_⟩) ?_ HB11.out ?_
      rotate_left 2
      · intro w hS; obtain ⟨_, t0, _⟩ := row3 hS; clear hS; go_simp; rfl
      · simp only [List.setIfInBounds_toArray, List.set_cons_succ, List.set_cons_zero]; rfl
      refine wpAnyK_takeL (i := 4) (d := 81) (v := ?_) (T' := ?_) (listed' := #[false, true, true, true, true, false, false, false, false, false, false, false, false, false]) rfl rfl (by kernel_rfl) (fun _ _ _ h => h) rfl (Or.inl ⟨by rfl, ?_⟩) ?_ HB11.out ?_
      rotate_left 2
      · intro w hS; clear hS; go_simp; rfl
      · simp only [List.setIfInBounds_toArray, List.set_cons_succ, List.set_cons_zero]; rfl
      refine wpAnyK_takeL (i := 7) (d := 84) (v := ?_) (T' := ?_) (listed' := #[false, true, true, true, true, false, false, true, false, false, false, false, false, false]) rfl rfl (by kernel_rfl) (fun _ _ _ h => h) rfl (Or.inl ⟨by rfl, ?_⟩) ?_ HB11.out ?_
      rotate_left 2
      · intro w hS; clear hS; go_simp; rfl
      · simp only [List.setIfInBounds_toArray, List.set_cons_succ, List.set_cons_zero]; rfl
      refine wpAnyK_takeL (i := 8) (d := 85) (v := ?_) (T' := ?_) (listed' := #[false, true, true, true, true, false, false, true, true, false, false, false, false, false]) rfl rfl (by kernel_rfl) (fun _ _ _ h => h) rfl (Or.inl ⟨by rfl, ?_⟩) ?_ HB11.out ?_
      rotate_left 2
      · intro w hS; clear hS; go_simp; rfl
      · simp only [List.setIfInBounds_toArray, List.set_cons_succ, List.set_cons_zero]; rfl
      refine wpAnyK_takeL (i := 9) (d := 86) (v := ?_) (T' := ?_) (listed' := #[false, true, true, true, true, false, false, true, true, true, false, false, false, false]) rfl rfl (by kernel_rfl) (fun _ _ _ h => h) rfl (Or.inl ⟨by rfl, ?_⟩) ?_ HB11.out ?_
      rotate_left 2
      · intro w hS; obtain ⟨_, _, t0⟩ := row3 hS; clear hS; go_simp; rfl
      · simp only [List.setIfInBounds_toArray, List.set_cons_succ, List.set_cons_zero]; rfl
      refine wpAnyK_takeL (i := 10) (d := 87) (v := ?_) (T' := ?_) (listed' := #[false, true, true, true, true, false, false, true, true, true, true, false, false, false]) rfl rfl (by kernel_rfl) (fun _ _ _ h => h) rfl (Or.inl ⟨by rfl, ?_⟩) ?_ HB11.out ?_
      rotate_left 2
      · intro w hS; clear hS; go_simp; rfl
      · simp only [List.setIfInBounds_toArray, List.set_cons_succ, List.set_cons_zero]; rfl
      have HPX := Lib.hid (And.intro HR11.out.lt HQ11.out.lt)
      have HOY : Hid (OkI (y.toNat : Int) ∧ OkI (z.toNat : Int) ∧ OkI ((y.toNat : Int) + (z.toNat : Int))) := Lib.hid ⟨⟨by omega, by omega⟩, ⟨by omega, by omega⟩, ⟨by omega, by omega⟩⟩
      have HLL : Hid (L.length ≤ 4096) := Lib.hid (by have := HR11.out.cnt; have := HNL.out; omega)
      refine wpAnyK_twoL (i := 0) (j := 5) (Li := #[true, true, true, true, true, false, false, true, true, true, true, false, false, false]) (Lj := #[false, true, true, true, true, true, false, true, true, true, true, false, false, false]) (by kernel_rfl) rfl rfl (by rfl) (by rfl) rfl rfl ?_ ?_
      · intro K hK
        go_simp
        have hbx := blk_kept HB11.out (gb_alloc w12 (.cells #[] 5) none)
        have hlt := Own.lit w12 #[] [] 0 w12.heap.size rfl rfl (Nat.le_refl _) (Nat.zero_le _)
        have hgr := gb_alloc w12 (.cells #[] 5) none
        generalize w12.alloc (.cells #[] 5) = w13 at *
        have HB13 := Lib.hid hbx
        have HL13 := Lib.hid hlt
        have HR13 := Lib.hid (HR11.out.grown hgr)
        have HQ13 := Lib.hid (HQ11.out.grown hgr)
        have HG13 := Lib.hid (gb_same HG11.out hgr)
        have HZ13 := Lib.hid hgr.size
        clear hbx hlt hgr
        refine hK _ _ (fun _ => HB13.out) ?_
        clear hK K
        refine wpAnyK_oneL (i := 5) (listed' := #[true, true, true, true, true, true, false, true, true, true, true, false, false, false]) (by kernel_rfl) rfl (by rfl) rfl ?_
        intro K hK
        go_simp
        refine (take_any HR13.out (y.toNat : Int) HOY.out.1).mono ?_
        rintro e w14 ⟨v14, f14, cs14, rfl, ho14, hk14, hq14⟩
        rw [Int.toNat_natCast] at ho14 hq14
        have HL14 := Lib.hid (K2.own HL13.out hk14 (fun j hj => by have := (HL13.out.lt j hj).1; have := HPX.out; omega))
        have HV14 := Lib.hid ho14.rd
        have HR14 := Lib.hid hq14
        have HQ14 := Lib.hid (HQ13.out.k2 hk14 (by have := HP2.out; have := HP3.out; omega) (by have := HP2.out; have := HP3.out; omega) (by have := HP2.out; have := HP3.out; omega) (by have := HP2.out; have := HP3.out; omega))
        have HB14 := Lib.hid ((hk14.block _ (lt_of_blk HB13.out) (by have := HP2.out; omega) (by have := HP2.out; omega)).trans HB13.out)
        have HG14 := Lib.hid (K2.new HG13.out (by have := HP2.out; omega) (by have := HP2.out; omega) hk14)
        have HZ14 := Lib.hid (Nat.le_trans HZ13.out hk14.size)
        clear ho14 hk14 hq14
        refine hK _ _ (fun _ => HB14.out) ?_
        clear hK K
        refine wpAnyK_oneL (i := 6) (listed' := #[true, true, true, true, true, true, true, true, true, true, true, false, false, false]) (by kernel_rfl) rfl (by rfl) rfl ?_
        intro K hK
        refine app_bytesW_op _ _ rfl w12.heap.size (.slice (some ⟨w12.heap.size, 0, none⟩) 0 0) v14 [] (L.take y.toNat) rfl rfl HL14.out HV14.out.w HZ14.out (by have := HLL.out; simp; omega) ?_
        intro v15 w15 ho15 hg15 hf15
        rw [List.nil_append] at ho15
        have HO15 := Lib.hid ho15
        have HG15 := Lib.hid (gb_trans HG14.out hg15 (fun j hj => .inr (by have := (HL14.out.lt j hj).1; have := HPX.out; have := HP2.out; omega)))
        have HB15 := Lib.hid (blk_kept' HB14.out hg15 (fun e => by have := (HL14.out.lt _ e).1; have := HPX.out; have := HP2.out; omega))
        have HR15 := Lib.hid (HR14.out.kept hg15 (fun e => by have := (HL14.out.lt _ e).1; have := HPX.out; omega) (fun e => by have := (HL14.out.lt _ e).1; have := HPX.out; omega))
        have HQ15 := Lib.hid (HQ14.out.kept hg15 (fun e => by have := (HL14.out.lt _ e).1; have := HPX.out; omega) (fun e => by have := (HL14.out.lt _ e).1; have := HPX.out; omega))
        have HZ15 := Lib.hid (Nat.le_trans HZ14.out hg15.size)
        clear ho15 hg15 hf15
        refine hK _ _ (fun _ => HB15.out) ?_
        clear hK K
        refine wpAnyK_oneL (i := 11) (listed' := #[true, true, true, true, true, true, true, true, true, true, true, true, false, false]) (by kernel_rfl) rfl (by rfl) rfl ?_
        intro K hK
        go_simp
        refine (take_any HR15.out (z.toNat : Int) HOY.out.2.1).mono ?_
        rintro e w16 ⟨v16, f16, cs16, rfl, ho16, hk16, hq16⟩
        rw [Int.toNat_natCast] at ho16 hq16
        have HO16 := Lib.hid (K2.own HO15.out hk16 (fun j hj => by have := (HO15.out.lt j hj).1; have := HPX.out; omega))
        have HV16 := Lib.hid ho16.rd
        have HR16 := Lib.hid hq16
        have HQ16 := Lib.hid (HQ15.out.k2 hk16 (by have := HP2.out; have := HP3.out; omega) (by have := HP2.out; have := HP3.out; omega) (by have := HP2.out; have := HP3.out; omega) (by have := HP2.out; have := HP3.out; omega))
        have HB16 := Lib.hid ((hk16.block _ (lt_of_blk HB15.out) (by have := HP2.out; omega) (by have := HP2.out; omega)).trans HB15.out)
        have HG16 := Lib.hid (K2.new HG15.out (by have := HP2.out; omega) (by have := HP2.out; omega) hk16)
        have HZ16 := Lib.hid (Nat.le_trans HZ15.out hk16.size)
        clear ho16 hk16 hq16
        refine hK _ _ (fun _ => HB16.out) ?_
        clear hK K
        refine wpAnyK_oneL (i := 12) (listed' := #[true, true, true, true, true, true, true, true, true, true, true, true, true, false]) (by kernel_rfl) rfl (by rfl) rfl ?_
        intro K hK
        refine app_bytesW_op _ _ rfl w12.heap.size v15 v16 (L.take y.toNat) ((L.drop y.toNat).take z.toNat) rfl rfl HO16.out HV16.out.w HZ16.out (by have := HLL.out; simp; omega) ?_
        intro v17 w17 ho17 hg17 hf17
        rw [show L.take y.toNat ++ (L.drop y.toNat).take z.toNat = L.take (y.toNat + z.toNat) from List.take_add.symm] at ho17
        have HO17 := Lib.hid ho17
        have HG17 := Lib.hid (gb_trans HG16.out hg17 (fun j hj => .inr (by have := (HO16.out.lt j hj).1; have := HPX.out; have := HP2.out; omega)))
        have HB17 := Lib.hid (blk_kept' HB16.out hg17 (fun e => by have := (HO16.out.lt _ e).1; have := HPX.out; have := HP2.out; omega))
        have HR17 := Lib.hid (HR16.out.kept hg17 (fun e => by have := (HO16.out.lt _ e).1; have := HPX.out; omega) (fun e => by have := (HO16.out.lt _ e).1; have := HPX.out; omega))
        have HQ17 := Lib.hid (HQ16.out.kept hg17 (fun e => by have := (HO16.out.lt _ e).1; have := HPX.out; omega) (fun e => by have := (HO16.out.lt _ e).1; have := HPX.out; omega))
        clear ho17 hg17 hf17
        refine hK _ _ (fun _ => HB17.out) ?_
        clear hK K
        refine wpAnyK_oneL (i := 13) (listed' := #[true, true, true, true, true, true, true, true, true, true, true, true, true, true]) (by kernel_rfl) rfl (by rfl) rfl ?_
        intro K hK
        go_simp
        refine hK _ _ (fun h => Bool.noConfusion (show true = false from h)) ?_
        clear hK K
        refine wpAnyK_done (by kernel_rfl) ?_ _
        obtain ⟨_, t1, t2⟩ := row3 HB17.out
        go_wp2_with fail
        refine (take_any HQ17.out ((y.toNat : Int) + (z.toNat : Int)) HOY.out.2.2).mono ?_
        rintro e w18 ⟨v18, f18, cs18, rfl, ho18, hk18, hq18⟩
        have e18 : ((y.toNat : Int) + (z.toNat : Int)).toNat = y.toNat + z.toNat := by omega
        rw [e18] at ho18 hq18
        have HO18 := Lib.hid (K2.own HO17.out hk18 (fun j hj => by have := (HO17.out.lt j hj).1; have := HPX.out; omega))
        have HV18 := Lib.hid ho18
        have HQ18 := Lib.hid hq18
        have hr18 := HR17.out.k2 hk18 (by have := HP2.out; have := HP3.out; omega) (by have := HP2.out; have := HP3.out; omega) (by have := HP2.out; have := HP3.out; omega) (by have := HP2.out; have := HP3.out; omega)
        rw [List.drop_drop] at hr18
        have HR18 := Lib.hid hr18
        have HG18 := Lib.hid (K2.new HG17.out (by have := HP2.out; have := HP3.out; omega) (by have := HP2.out; have := HP3.out; omega) hk18)
        clear ho18 hk18 hq18 hr18 e18 t1 t2
        go_wp2_with fail
        refine (same_gW _ _ w18 _ HO18.out.rd.w HV18.out.rd.w).mono ?_
        rintro e w19 ⟨rfl, hg19⟩
        have HG19 := Lib.hid (gb_same HG18.out hg19)
        have HR19 := Lib.hid (HR18.out.grown hg19)
        have HQ19 := Lib.hid (HQ18.out.grown hg19)
        clear hg19
        generalize L.drop (y.toNat + z.toNat) = D at *
        have HDN : Hid (D.length ≤ N) := Lib.hid HR19.out.cnt
        go_wp2_with fail
        refine (lenB_any HR19.out).mono ?_
        rintro e w20 ⟨rfl, rfl⟩
        go_wp2_with fail
        refine (lenB_any HQ19.out).mono ?_
        rintro e w20 ⟨rfl, rfl⟩
        have hdd : ((D.length : Int) == (D.length : Int)) = true := by simp
        go_wp2_with fail
        have hpa := peek_any HR19.out (1 + (x.toNat : Int)) ⟨by omega, by omega⟩
        refine hpa.mono ?_
        rintro e w21 ⟨v21, rfl, ho21, hg21⟩
        have HO21 := Lib.hid ho21
        have HG21 := Lib.hid (gb_same HG19.out hg21)
        have HQ21 := Lib.hid (HQ19.out.grown hg21)
        clear ho21 hg21 hpa
        go_wp2_with fail
        have hpb := peek_any HQ21.out (1 + (x.toNat : Int)) ⟨by omega, by omega⟩
        refine hpb.mono ?_
        rintro e w22 ⟨v22, rfl, ho22, hg22⟩
        have HO22 := Lib.hid ho22
        have HP22 := Lib.hid (HO21.out.grown hg22)
        have HG22 := Lib.hid (gb_same HG21.out hg22)
        clear ho22 hg22 hpb
        go_wp2_with fail
        refine (same_gW _ _ w22 _ HP22.out.rd.w HO22.out.rd.w).mono ?_
        rintro e w23 ⟨rfl, hg23⟩
        have HG23 := Lib.hid (gb_same HG22.out hg23)
        clear hg23
        go_wp2
        go_ret
        exact ⟨rfl, HG23.out⟩
      · intro K hK
        go_simp
        refine (take_any HR11.out (y.toNat : Int) HOY.out.1).mono ?_
        rintro e w13 ⟨v14, f14, cs14, rfl, ho14, hk14, hq14⟩
        rw [Int.toNat_natCast] at ho14 hq14
        have HB13 := Lib.hid ((hk14.block _ (lt_of_blk HB11.out) (by have := HP2.out; omega) (by have := HP2.out; omega)).trans HB11.out)
        have HV13 := Lib.hid ho14.rd
        have HR13 := Lib.hid hq14
        have HQ13 := Lib.hid (HQ11.out.k2 hk14 (by have := HP2.out; have := HP3.out; omega) (by have := HP2.out; have := HP3.out; omega) (by have := HP2.out; have := HP3.out; omega) (by have := HP2.out; have := HP3.out; omega))
        have HG13 := Lib.hid (K2.new HG11.out (by have := HP2.out; omega) (by have := HP2.out; omega) hk14)
        have HZ13 := Lib.hid hk14.size
        clear ho14 hk14 hq14
        refine hK _ _ (fun _ => HB13.out) ?_
        clear hK K
        refine wpAnyK_oneL (i := 0) (listed' := #[true, true, true, true, true, true, false, true, true, true, true, false, false, false]) (by kernel_rfl) rfl (by rfl) rfl ?_
        intro K hK
        go_simp
        have hbx := blk_kept HB13.out (gb_alloc w13 (.cells #[] 5) none)
        have hlt := Own.lit w13 #[] [] 0 w12.heap.size rfl rfl HZ13.out (Nat.zero_le _)
        have hgr := gb_alloc w13 (.cells #[] 5) none
        generalize w13.alloc (.cells #[] 5) = w14 at *
        have HB14 := Lib.hid hbx
        have HL14 := Lib.hid hlt
        have HV14 := Lib.hid (HV13.out.grown hgr)
        have HR14 := Lib.hid (HR13.out.grown hgr)
        have HQ14 := Lib.hid (HQ13.out.grown hgr)
        have HG14 := Lib.hid (gb_same HG13.out hgr)
        have HZ14 := Lib.hid (Nat.le_trans HZ13.out hgr.size)
        clear hbx hlt hgr
        refine hK _ _ (fun _ => HB14.out) ?_
        clear hK K
        refine wpAnyK_oneL (i := 6) (listed' := #[true, true, true, true, true, true, true, true, true, true, true, false, false, false]) (by kernel_rfl) rfl (by rfl) rfl ?_
        intro K hK
        refine app_bytesW_op _ _ rfl w12.heap.size (.slice (some ⟨w13.heap.size, 0, none⟩) 0 0) v14 [] (L.take y.toNat) rfl rfl HL14.out HV14.out.w HZ14.out (by have := HLL.out; simp; omega) ?_
        intro v15 w15 ho15 hg15 hf15
        rw [List.nil_append] at ho15
        have HO15 := Lib.hid ho15
        have HG15 := Lib.hid (gb_trans HG14.out hg15 (fun j hj => .inr (by have := (HL14.out.lt j hj).1; have := HPX.out; have := HP2.out; omega)))
        have HB15 := Lib.hid (blk_kept' HB14.out hg15 (fun e => by have := (HL14.out.lt _ e).1; have := HPX.out; have := HP2.out; omega))
        have HR15 := Lib.hid (HR14.out.kept hg15 (fun e => by have := (HL14.out.lt _ e).1; have := HPX.out; omega) (fun e => by have := (HL14.out.lt _ e).1; have := HPX.out; omega))
        have HQ15 := Lib.hid (HQ14.out.kept hg15 (fun e => by have := (HL14.out.lt _ e).1; have := HPX.out; omega) (fun e => by have := (HL14.out.lt _ e).1; have := HPX.out; omega))
        have HZ15 := Lib.hid (Nat.le_trans HZ14.out hg15.size)
        clear ho15 hg15 hf15
        refine hK _ _ (fun _ => HB15.out) ?_
        clear hK K
        refine wpAnyK_oneL (i := 11) (listed' := #[true, true, true, true, true, true, true, true, true, true, true, true, false, false]) (by kernel_rfl) rfl (by rfl) rfl ?_
        intro K hK
        go_simp
        refine (take_any HR15.out (z.toNat : Int) HOY.out.2.1).mono ?_
        rintro e w16 ⟨v16, f16, cs16, rfl, ho16, hk16, hq16⟩
        rw [Int.toNat_natCast] at ho16 hq16
        have HO16 := Lib.hid (K2.own HO15.out hk16 (fun j hj => by have := (HO15.out.lt j hj).1; have := HPX.out; omega))
        have HV16 := Lib.hid ho16.rd
        have HR16 := Lib.hid hq16
        have HQ16 := Lib.hid (HQ15.out.k2 hk16 (by have := HP2.out; have := HP3.out; omega) (by have := HP2.out; have := HP3.out; omega) (by have := HP2.out; have := HP3.out; omega) (by have := HP2.out; have := HP3.out; omega))
        have HB16 := Lib.hid ((hk16.block _ (lt_of_blk HB15.out) (by have := HP2.out; omega) (by have := HP2.out; omega)).trans HB15.out)
        have HG16 := Lib.hid (K2.new HG15.out (by have := HP2.out; omega) (by have := HP2.out; omega) hk16)
        have HZ16 := Lib.hid (Nat.le_trans HZ15.out hk16.size)
        clear ho16 hk16 hq16
        refine hK _ _ (fun _ => HB16.out) ?_
        clear hK K
        refine wpAnyK_oneL (i := 12) (listed' := #[true, true, true, true, true, true, true, true, true, true, true, true, true, false]) (by kernel_rfl) rfl (by rfl) rfl ?_
        intro K hK
        refine app_bytesW_op _ _ rfl w12.heap.size v15 v16 (L.take y.toNat) ((L.drop y.toNat).take z.toNat) rfl rfl HO16.out HV16.out.w HZ16.out (by have := HLL.out; simp; omega) ?_
        intro v17 w17 ho17 hg17 hf17
        rw [show L.take y.toNat ++ (L.drop y.toNat).take z.toNat = L.take (y.toNat + z.toNat) from List.take_add.symm] at ho17
        have HO17 := Lib.hid ho17
        have HG17 := Lib.hid (gb_trans HG16.out hg17 (fun j hj => .inr (by have := (HO16.out.lt j hj).1; have := HPX.out; have := HP2.out; omega)))
        have HB17 := Lib.hid (blk_kept' HB16.out hg17 (fun e => by have := (HO16.out.lt _ e).1; have := HPX.out; have := HP2.out; omega))
        have HR17 := Lib.hid (HR16.out.kept hg17 (fun e => by have := (HO16.out.lt _ e).1; have := HPX.out; omega) (fun e => by have := (HO16.out.lt _ e).1; have := HPX.out; omega))
        have HQ17 := Lib.hid (HQ16.out.kept hg17 (fun e => by have := (HO16.out.lt _ e).1; have := HPX.out; omega) (fun e => by have := (HO16.out.lt _ e).1; have := HPX.out; omega))
        clear ho17 hg17 hf17
        refine hK _ _ (fun _ => HB17.out) ?_
        clear hK K
        refine wpAnyK_oneL (i := 13) (listed' := #[true, true, true, true, true, true, true, true, true, true, true, true, true, true]) (by kernel_rfl) rfl (by rfl) rfl ?_
        intro K hK
        go_simp
        refine hK _ _ (fun h => Bool.noConfusion (show true = false from h)) ?_
        clear hK K
        refine wpAnyK_done (by kernel_rfl) ?_ _
        obtain ⟨_, t1, t2⟩ := row3 HB17.out
        go_wp2_with fail
        refine (take_any HQ17.out ((y.toNat : Int) + (z.toNat : Int)) HOY.out.2.2).mono ?_
        rintro e w18 ⟨v18, f18, cs18, rfl, ho18, hk18, hq18⟩
        have e18 : ((y.toNat : Int) + (z.toNat : Int)).toNat = y.toNat + z.toNat := by omega
        rw [e18] at ho18 hq18
        have HO18 := Lib.hid (K2.own HO17.out hk18 (fun j hj => by have := (HO17.out.lt j hj).1; have := HPX.out; omega))
        have HV18 := Lib.hid ho18
        have HQ18 := Lib.hid hq18
        have hr18 := HR17.out.k2 hk18 (by have := HP2.out; have := HP3.out; omega) (by have := HP2.out; have := HP3.out; omega) (by have := HP2.out; have := HP3.out; omega) (by have := HP2.out; have := HP3.out; omega)
        rw [List.drop_drop] at hr18
        have HR18 := Lib.hid hr18
        have HG18 := Lib.hid (K2.new HG17.out (by have := HP2.out; have := HP3.out; omega) (by have := HP2.out; have := HP3.out; omega) hk18)
        clear ho18 hk18 hq18 hr18 e18 t1 t2
        go_wp2_with fail
        refine (same_gW _ _ w18 _ HO18.out.rd.w HV18.out.rd.w).mono ?_
        rintro e w19 ⟨rfl, hg19⟩
        have HG19 := Lib.hid (gb_same HG18.out hg19)
        have HR19 := Lib.hid (HR18.out.grown hg19)
        have HQ19 := Lib.hid (HQ18.out.grown hg19)
        clear hg19
        generalize L.drop (y.toNat + z.toNat) = D at *
        have HDN : Hid (D.length ≤ N) := Lib.hid HR19.out.cnt
        go_wp2_with fail
        refine (lenB_any HR19.out).mono ?_
        rintro e w20 ⟨rfl, rfl⟩
        go_wp2_with fail
        refine (lenB_any HQ19.out).mono ?_
        rintro e w20 ⟨rfl, rfl⟩
        have hdd : ((D.length : Int) == (D.length : Int)) = true := by simp
        go_wp2_with fail
        have hpa := peek_any HR19.out (1 + (x.toNat : Int)) ⟨by omega, by omega⟩
        refine hpa.mono ?_
        rintro e w21 ⟨v21, rfl, ho21, hg21⟩
        have HO21 := Lib.hid ho21
        have HG21 := Lib.hid (gb_same HG19.out hg21)
        have HQ21 := Lib.hid (HQ19.out.grown hg21)
        clear ho21 hg21 hpa
        go_wp2_with fail
        have hpb := peek_any HQ21.out (1 + (x.toNat : Int)) ⟨by omega, by omega⟩
        refine hpb.mono ?_
        rintro e w22 ⟨v22, rfl, ho22, hg22⟩
        have HO22 := Lib.hid ho22
        have HP22 := Lib.hid (HO21.out.grown hg22)
        have HG22 := Lib.hid (gb_same HG21.out hg22)
        clear ho22 hg22 hpb
        go_wp2_with fail
        refine (same_gW _ _ w22 _ HP22.out.rd.w HO22.out.rd.w).mono ?_
        rintro e w23 ⟨rfl, hg23⟩
        have HG23 := Lib.hid (gb_same HG22.out hg23)
        clear hg23
        go_wp2
        go_ret
        exact ⟨rfl, HG23.out⟩
end Go.Proofs.Ytjidkaeglhfajaa
