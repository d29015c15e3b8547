/-
  extent.Take: the walk.
-/
import Derived.Test.YtpfeaeklenopdaaETakeM
namespace Go.Proofs.Ytpfeaeklenopdaa
open Go.RowKit Go.Shelf

attribute [local go_sem] Oper.semAt_some

theorem region_round_L {F : Fence} {n : Nat} {P : Program} {ops : Array Oper} {Q : Exit → Act → World → Prop} (hm : P.follows .mixedOrders = true) (l : Nat) (hnd : noDefer ops = true) {id fuel : Nat} {a : Act} {w : World} {listed : Array Bool} (hs : ops.size = fuel) (hl : Array.replicate ops.size false = listed)
    (h : wpAnyIn F n P .any ops Q fuel listed a w.drew) : (Code.region id ops true).wpIn (F.inRound l) n P Q a w := by
  subst hs hl
  exact region_inRound hm l hnd h
def TIv (w : World) (p m : Nat) (l : List UInt8) {t : Nat} (ys : List (BitNo t)) (W : World) : Prop := ys.length < m ∧ ∃ lv nv, TV w p m (ys.map (·.1)) (setAll l (ys.map (·.1))) lv nv W
def TIx (w : World) (p m : Nat) (l : List UInt8) {t : Nat} (cd : Code) (ys : List (BitNo t)) (W : World) : Prop := cd = Code.ret ∧ ys.length = m ∧ ∃ lv nv, TV w p m (ys.map (·.1)) (setAll l (ys.map (·.1))) lv nv W
theorem TIv.own {w : World} {p m B : Nat} {l : List UInt8} {t : Nat} (hB : p + 4 ≤ B) : OwnFrom B (TIv w p m l (t := t)) := by
  rintro ys W W' row ⟨h1, lv, nv, h2⟩ hg hr
  exact ⟨h1, lv, nv, h2.abide hg (fun r e => ⟨by have := (hr r e).1; omega, (hr r e).2⟩)⟩
theorem TIx.own {w : World} {p m B : Nat} {l : List UInt8} {t : Nat} (cd : Code) (hB : p + 4 ≤ B) : OwnFrom B (TIx w p m l (t := t) cd) := by
  rintro ys W W' row ⟨h0, h1, lv, nv, h2⟩ hg hr
  exact ⟨h0, h1, lv, nv, h2.abide hg (fun r e => ⟨by have := (hr r e).1; omega, (hr r e).2⟩)⟩
theorem findL_take {l : List UInt8} {f t x : Nat} {on : Bool} (h1 : f ≤ x) (h2 : x < t) (hb : bitN l x = on) : (findL l f t on).take ((findL l f x on).length + 1) = findL l f x on ++ [x] := by
  have e : findL l f t on = findL l f (x + 1) on ++ findL l (x + 1) t on := by
    unfold findL
    rw [← List.filter_append]
    congr 1
    have := List.range'_append (s := f) (m := x + 1 - f) (n := t - (x + 1)) (step := 1)
    rw [show f + 1 * (x + 1 - f) = x + 1 by omega, show x + 1 - f + (t - (x + 1)) = t - f by omega] at this
    exact this.symm
  have e2 := findL_snoc (l := l) (f := f) (k := x) (on := on) h1
  rw [if_pos hb] at e2
  rw [e, e2, List.take_append_of_le_length (by simp)]
  rw [List.take_of_length_le (by simp)]
set_option maxRecDepth 100000 in
set_option maxHeartbeats 4000000 in
theorem take_ok (v : Value) (l : List UInt8) (f t m : Nat) (w : World) (hft : f ≤ t) (ht : t ≤ 8 * l.length) (hm : 1 ≤ m) (hm2 : (m : Int) ≤ 9223372036854775807) (hv : Rd w v l) (hl : l.length ≤ 1000000) :
    Calls Try.prog 24 #[v, .int .i64 (f : Int), .int .i64 (t : Int), .int .i64 (m : Int)] w (TakeP w (takeO l f t m)) := by
  have hvb : validB l f t = true := by unfold validB; simp; omega
  have eO : takeO l f t m = if (findL l f t false).length < m then .error 13 else .ok ((findL l f t false).take m, setAll l ((findL l f t false).take m)) := by
    unfold takeO
    rw [hvb, show (true && decide (1 ≤ (m : Int))) = true by simp; omega, if_pos rfl]
    simp only [Int.toNat_natCast, Int.ofNat_lt]
  rw [eO]
  clear eO
  generalize hOO : (if (findL l f t false).length < m then (.error 13 : Except Int (List Nat × List UInt8)) else .ok ((findL l f t false).take m, setAll l ((findL l f t false).take m))) = oo
  have HOO := Lib.hid hOO
  clear hOO
  obtain ⟨WA, hWA⟩ : ∃ WA, (((w.alloc (.cells #[.int .i64 (m : Int)] 3)).alloc (.cells #[.slice none 0 0] 40)).alloc (.cells #[.slice none 0 0] 22)).alloc (.cells #[.int .i64 0] 27) = WA := ⟨_, rfl⟩
  have hgA : w.grownBy WA none := by rw [← hWA]; exact gb_same (gb_same (gb_same (gb_alloc _ _ _) (gb_alloc _ _ _)) (gb_alloc _ _ _)) (gb_alloc _ _ _)
  have hzA : WA.heap.size = w.heap.size + 4 := by rw [← hWA]; simp
  have a7 : WA.heap[w.heap.size]? = some (.cells #[.int .i64 (m : Int)] 3 (0, 0)) := by rw [← hWA]; exact blk_kept (blk_kept (blk_kept (heap_at_alloc _ _) (gb_alloc _ _ _)) (gb_alloc _ _ _)) (gb_alloc _ _ _)
  have a8 : WA.heap[w.heap.size + 1]? = some (.cells #[.slice none 0 0] 40 (0, 0)) := by
    rw [← hWA]
    have := heap_at_alloc (w.alloc (.cells #[.int .i64 (m : Int)] 3)) (.cells #[.slice none 0 0] 40)
    rw [World.size_alloc] at this
    exact blk_kept (blk_kept this (gb_alloc _ _ _)) (gb_alloc _ _ _)
  have a9 : WA.heap[w.heap.size + 1 + 1]? = some (.cells #[.slice none 0 0] 22 (0, 0)) := by
    rw [← hWA]
    have := heap_at_alloc ((w.alloc (.cells #[.int .i64 (m : Int)] 3)).alloc (.cells #[.slice none 0 0] 40)) (.cells #[.slice none 0 0] 22)
    rw [World.size_alloc, World.size_alloc] at this
    exact blk_kept this (gb_alloc _ _ _)
  have a10 : WA.heap[w.heap.size + 1 + 1 + 1]? = some (.cells #[.int .i64 0] 27 (0, 0)) := by
    rw [← hWA]
    have := heap_at_alloc (((w.alloc (.cells #[.int .i64 (m : Int)] 3)).alloc (.cells #[.slice none 0 0] 40)).alloc (.cells #[.slice none 0 0] 22)) (.cells #[.int .i64 0] 27)
    rw [World.size_alloc, World.size_alloc, World.size_alloc] at this
    exact this
  have hs := valid_any v l f t WA (hv.grown hgA) hl
  rw [hvb] at hs
  have HS := Lib.hid hs
  have HC := Lib.hid (clone_any v l WA (hv.grown hgA) (by omega))
  have c7 : WA.cell? ⟨w.heap.size, 0, none⟩ = some (.int .i64 (m : Int)) := cell_row a7
  have HWA := Lib.hid hWA
  have HGA := Lib.hid hgA
  have HZA := Lib.hid hzA
  have A7 := Lib.hid a7
  have A8 := Lib.hid a8
  have A9 := Lib.hid a9
  have A10 := Lib.hid a10
  have HV := Lib.hid hv
  have HL := Lib.hid hl
  have HT := Lib.hid ht
  have HFT := Lib.hid hft
  have HM := Lib.hid hm
  have hmI : ¬ (m : Int) < 1 := by omega
  have htI : (t : Int) ≤ 8000000 := by omega
  obtain ⟨a, c, rfl⟩ := hv.len
  clear hvb hs hWA hgA hzA a7 a8 a9 a10 hv hl ht hft hm
  refine (callsIn_wide (n := 5)).1 ?_
  refine callsIn_of_wp_marks Try.func24 rfl trivial ?_ rfl
  simp only [Try.ntmps24, List.size_toArray, List.length_cons, List.length_nil, Nat.reduceAdd, Nat.reduceSub, Array.replicate_succ, Array.replicate_zero, List.push_toArray, List.append_toArray, List.nil_append, List.cons_append]
  gi_wp2_with (first | (refine ⟨trivial, ?_⟩; gi_at_call 35; rw [HWA.out]; refine (callsIn_wide.2 HS.out).mono ?_; rintro e w' ⟨rfl, rfl⟩) | (refine ⟨trivial, ?_⟩; gi_at_call 39; refine (callsIn_wide.2 HC.out).mono ?_; go_must (rintro e w2 ⟨v2, rfl, ho2, hg2⟩; obtain ⟨a2, c2, rfl⟩ := ho2.rd.len; have HO2 := Lib.hid ho2; have HG2 := Lib.hid hg2; have f9 : w2.frozen? ⟨w.heap.size + 1 + 1, 0, none⟩ = false := frozen_row (blk_kept A9.out hg2); have c9 : w2.cell? ⟨w.heap.size + 1 + 1, 0, none⟩ = some (.slice none 0 0) := cell_row (blk_kept A9.out hg2); clear ho2 hg2)) | (refine ⟨trivial, ?_⟩; gi_at_call 36))
  obtain ⟨w3, hw3⟩ : ∃ w3, w2.setCell ⟨w.heap.size + 1 + 1, 0, none⟩ (.slice a2 l.length c2) = w3 := ⟨_, rfl⟩
  rw [hw3]
  have hs3 : w2.grownBy w3 (some (w.heap.size + 1 + 1)) := by rw [← hw3]; exact gb_setCell _ _ _
  have hg3 : w.grownBy w3 none := gb_trans (gb_same HGA.out HG2.out) hs3 (fun r e => .inr (by have := Option.some.inj e; omega))
  have hz3 : w.heap.size + 4 ≤ w3.heap.size := by have h1 := HZA.out; have h2 := HG2.out.size; have h3 := hs3.size; omega
  have b7 : w3.heap[w.heap.size]? = some (.cells #[.int .i64 (m : Int)] 3 (0, 0)) := blk_kept' (blk_kept A7.out HG2.out) hs3 (fun e => by have := Option.some.inj e; omega)
  have b8 : w3.heap[w.heap.size + 1]? = some (.cells #[.slice none 0 0] 40 (0, 0)) := blk_kept' (blk_kept A8.out HG2.out) hs3 (fun e => by have := Option.some.inj e; omega)
  have b9 : w3.heap[w.heap.size + 1 + 1]? = some (.cells #[.slice a2 l.length c2] 22 (0, 0)) := by rw [← hw3]; exact heap_setCell_same w2 (w.heap.size + 1 + 1) 0 _ _ (.slice a2 l.length c2) (blk_kept A9.out HG2.out)
  have b10 : w3.heap[w.heap.size + 1 + 1 + 1]? = some (.cells #[.int .i64 0] 27 (0, 0)) := blk_kept' (blk_kept A10.out HG2.out) hs3 (fun e => by have := Option.some.inj e; omega)
  have ho3 : Own w3 (w.heap.size + 4) (.slice a2 l.length c2) l := by rw [← HZA.out]; exact HO2.out.kept hs3 (fun k hk e => by have h1 := (HO2.out.lt k hk).1; have h2 := HZA.out; have := Option.some.inj e; omega)
  have hf3 := find_any (.slice a l.length c) l f t false w3 (HV.out.grown hg3)
  have hbx := boxes_new w3 (.slice a l.length c) f t false
  obtain ⟨W4, hW4⟩ : ∃ W4, (((w3.alloc (.cells #[.slice a l.length c] 22)).alloc (.cells #[.int .i64 (f : Int)] 3)).alloc (.cells #[.int .i64 (t : Int)] 3)).alloc (.cells #[.bool false] 4) = W4 := ⟨_, rfl⟩
  rw [hW4] at hf3 hbx
  have hz4 : W4.heap.size = w3.heap.size + 4 := by rw [← hW4]; simp
  have hg4 : w3.grownBy W4 none := by rw [← hW4]; exact gb_same (gb_same (gb_same (gb_alloc _ _ _) (gb_alloc _ _ _)) (gb_alloc _ _ _)) (gb_alloc _ _ _)
  have hTV : TV w w3.heap.size m [] l (.slice none 0 0) (.slice a2 l.length c2) W4 :=
    { b7 := blk_kept b7 hg4, b8 := blk_kept b8 hg4, b9 := blk_kept b9 hg4, b10 := blk_kept b10 hg4, li := OwnI.nil _ _, nx := ho3.grown hg4, nlt := fun k hk => (ho3.lt k hk).2, gb := gb_same hg3 hg4, sz := by omega, pz := hz3 }
  have H0 : Hid (TIv w w3.heap.size m l ([] : List (BitNo t)) W4) := Lib.hid ⟨by have := HM.out; simp; omega, _, _, hTV⟩
  have HF3 := Lib.hid hf3
  have HBX := Lib.hid hbx
  have HZ4 := Lib.hid hz4
  have HZ3 := Lib.hid hz3
  have HG4 := Lib.hid (gb_same hg3 hg4)
  clear hs3 hg3 hz3 b7 b8 b9 b10 ho3 hf3 hbx hW4 hz4 hg4 hTV hw3 f9 c9 HO2 HG2 HC HS HGA HZA A7 A8 A9 A10 HWA
  refine (callsIn_wide.2 HF3.out).mono ?_
  rintro e w' ⟨rfl, rfl⟩
  gi_wp2
  refine wpIn_rangeFunc_ownG rfl (by omega) (gf := 46) (lb := #[.pointer (some ⟨w3.heap.size + 1, 0, none⟩), .pointer (some ⟨w3.heap.size + 1 + 1, 0, none⟩), .pointer (some ⟨w3.heap.size, 0, none⟩), .pointer (some ⟨w3.heap.size + 1 + 1 + 1, 0, none⟩)]) rfl trivial (enters_of Try.func46 (by kernel_rfl) rfl)
    (find_stops 4 (by omega) (w3.heap.size + 1) (w3.heap.size + 1 + 1) w3.heap.size (w3.heap.size + 1 + 1 + 1) (.slice a l.length c) l f t false w' HFT.out HT.out HL.out (KP w.heap.size w3.heap.size) (KP.refl _ _) (fun h k => h.trans k) (KP.drew _ _) ?hR)
    (fun h k => h.trans k) (fun W l o o' hl _ _ _ => KP.put (by rw [HZ4.out] at hl; exact hl) (by have := HZ3.out; omega)) (Below.refl _ _) (fun _ => rfl) (TIv w w3.heap.size m l) (TIx w w3.heap.size m l) (TIv.own (by rw [HZ4.out]; omega))
    (fun cd => TIx.own cd (by rw [HZ4.out]; omega)) H0.out
    (fun x => { tmps := #[.slice a l.length c, .int .i64 (f : Int), .int .i64 (t : Int), .int .i64 (m : Int), undef, undef, undef, .pointer (some ⟨w.heap.size, 0, none⟩), .pointer (some ⟨w.heap.size + 1, 0, none⟩), .pointer (some ⟨w.heap.size + 1 + 1, 0, none⟩), .pointer (some ⟨w.heap.size + 1 + 1 + 1, 0, none⟩), .int .i64 (x.1 : Int), .slice a l.length c, .int .i64 (f : Int), .int .i64 (t : Int), .bool true, .bool false, .bool false, .int .i64 (m : Int), .bool (decide ((m : Int) < 1)), .bool (decide ((m : Int) < 1)), .slice a l.length c, .slice a2 l.length c2, .slice a l.length c, .int .i64 (f : Int), .int .i64 (t : Int), .func (.func 46) #[] #[.pointer (some ⟨w3.heap.size + 1, 0, none⟩), .pointer (some ⟨w3.heap.size + 1 + 1, 0, none⟩), .pointer (some ⟨w3.heap.size, 0, none⟩), .pointer (some ⟨w3.heap.size + 1 + 1 + 1, 0, none⟩)], .int .i64 (x.1 : Int), undef, undef, undef, undef, undef, undef, undef, undef, undef, undef, undef, undef, undef], defers := [] }) ?assign ?body ?done ?stop
  case hR =>
    intro W W' h1 h2
    have hb := (HBX.out.stay (W' := W') (fun j hj1 hj2 => by rw [h2.2.2 j (by omega) (by omega)]; exact h1.block j (by rw [HZ4.out]; omega))).cells
    refine ⟨hb.1, hb.2.1, hb.2.2.1, hb.2.2.2, HV.out.blocks (fun j hj => ?_)⟩
    have h3 := HZ3.out
    rw [h2.2.1 j hj, h1.block j (by rw [HZ4.out]; omega)]
    exact HG4.out.block j hj (by simp)
  case assign =>
    intro lp x W K hK
    gi_wp2
    exact hK
  case body =>
    rintro lp pre x W ⟨hlen, lv, nv, hI⟩ hN
    obtain ⟨k, hk⟩ : ∃ k, x.1 = k := ⟨_, rfl⟩
    have hkt : k < t := by rw [← hk]; exact x.2
    have HPRE : Hid ((pre ++ [x]).map (·.1) = pre.map (·.1) ++ [k]) := Lib.hid (by rw [List.map_append, List.map_singleton, hk])
    have hnl : (setAll l (pre.map (·.1))).length = l.length := setAll_len _ _
    have HSA := Lib.hid (setAll_snoc l (pre.map (·.1)) k)
    have hle2 : (pre.map (·.1)).length = pre.length := by simp
    simp only [hk]
    clear hk
    generalize setAll l (pre.map (·.1)) = nx at *
    generalize pre.map (·.1) = ls at *
    have hp := put_any nv nx k (w.heap.size + 4) true W hI.nx (by rw [hnl]; exact HL.out) (by rw [hnl]; have := HT.out; omega)
    have HI := Lib.hid hI
    have c9 : W.cell? ⟨w.heap.size + 1 + 1, 0, none⟩ = some nv := cell_row hI.b9
    obtain ⟨an, cn, rfl⟩ := hI.nx.rd.len
    obtain ⟨al, cl, rfl⟩ := hI.li.len
    have HP := Lib.hid hp
    have HLB : Hid ((ns ls).length ≤ 10000000) := Lib.hid (by rw [ns_len, hle2]; omega)
    obtain ⟨q, hq⟩ : ∃ q, (ns (ls ++ [k])).length = q := ⟨_, rfl⟩
    have hq2 : q = pre.length + 1 := by rw [← hq, ns_len, List.length_append, hle2]; rfl
    have HQ := Lib.hid hq
    have HLN : Hid (pre.length + 1 ≤ m) := Lib.hid hlen
    have HQ2 := Lib.hid hq2
    have hkI : (k : Int) ≤ 8000000 := by omega
    obtain ⟨nll, hnll⟩ : ∃ n, (ns ls).length = n := ⟨_, rfl⟩
    rw [hnll] at HI
    clear hnll hp hI hkt hnl hq hle2 hN hlen hq2
    by_cases hqm : q = m
    · have hmq := hqm.symm
      clear hqm
      subst hmq
      gi_wp2_with (first | (refine ⟨trivial, ?_⟩; gi_at_call 40; refine (CallsIn.inRound lp (callsIn_wide.2 HP.out)).mono ?_; go_must (rintro e w4 ⟨⟨u, rfl⟩, ho4, hg4⟩; have HT4 := Lib.hid (HI.out.put hg4 ho4); have HG4' := Lib.hid hg4; have HCL := Lib.hid (HT4.out.grown (gb_alloc w4 (.cells #[.int .i64 (k : Int)] 3) none)); have c8 : w4.cell? ⟨w.heap.size + 1, 0, none⟩ = some (.slice al nll cl) := cell_row HT4.out.b8; clear ho4 hg4)) | (gi_at_builtin; refine app_intIn rfl _ _ rfl (w3.heap.size + 4) (.slice al nll cl) (ns ls) (k : Int) w4.heap.size rfl rfl HCL.out.li (cell_row (j := 0) (heap_at_alloc w4 _)) HCL.out.sz HLB.out ?_; go_must (intro v5 w5 ho5 hg5; rw [← ns_snoc] at ho5; obtain ⟨a5, c5, rfl⟩ := ho5.len; rw [HQ.out] at ho5 ⊢; have f8 : w5.frozen? ⟨w.heap.size + 1, 0, none⟩ = false := frozen_row (blk_kept' HCL.out.b8 hg5 (fun e => by have := (HCL.out.li.lt _ e).1; have := HZ3.out; omega)); have c8' : w5.cell? ⟨w.heap.size + 1, 0, none⟩ = some (.slice al nll cl) := cell_row (blk_kept' HCL.out.b8 hg5 (fun e => by have := (HCL.out.li.lt _ e).1; have := HZ3.out; omega)); have HT6 := Lib.hid (TV.app HCL.out hg5 ho5); have HG5 := Lib.hid hg5; have c7' : (w5.setCell ⟨w.heap.size + 1, 0, none⟩ (.slice a5 m c5)).cell? ⟨w.heap.size, 0, none⟩ = some (.int .i64 (m : Int)) := cell_row HT6.out.b7; clear ho5 hg5)) | fail)
      have HT7 := Lib.hid (HT6.out.grown (gb_drew _ none))
      have HSZ : Hid (W.heap.size ≤ w5.heap.size) := Lib.hid (Nat.le_trans HG4'.out.size (Nat.le_trans (by simp) HG5.out.size))
      have HBK : Hid (∀ k', k' < W.heap.size → (k' < w.heap.size + 1 ∨ w.heap.size + 1 + 1 + 1 < k') → (Value.slice an nx.length cn).ownBlock ≠ some k' → (Value.slice al nll cl).ownBlock ≠ some k' → (w5.setCell ⟨w.heap.size + 1, 0, none⟩ (.slice a5 m c5)).drew.heap[k']? = W.heap[k']?) := Lib.hid (body_keep HG4'.out HG5.out (fun k' _ h => heap_setCell_other _ _ _ _ (by simp; omega)))
      obtain ⟨wd, hwd⟩ : ∃ wd, (w5.setCell ⟨w.heap.size + 1, 0, none⟩ (.slice a5 m c5)).drew = wd := ⟨_, rfl⟩
      have HZD : Hid (w5.heap.size = wd.heap.size) := Lib.hid (by rw [← hwd]; simp [World.drew])
      refine region_round_L (fuel := 5) (listed := #[false, false, false, false, false]) (by kernel_rfl) lp (by kernel_rfl) rfl (by kernel_rfl) ?_
      rw [hwd] at HT7 HBK ⊢
      obtain ⟨g1, g2, g3, g4, g5, g6, g7⟩ := HT7.out.three
      have HFIN : Hid (KeepsFrom w'.heap.size W (((wd.setCell ⟨w.heap.size + 1, 0, none⟩ (.slice a5 m c5)).setCell ⟨w.heap.size + 1 + 1, 0, none⟩ (.slice an nx.length cn)).setCell ⟨w.heap.size + 1 + 1 + 1, 0, none⟩ (.int .i64 0)) ∧ TIx w w3.heap.size m l Code.ret (pre ++ [x]) (((wd.setCell ⟨w.heap.size + 1, 0, none⟩ (.slice a5 m c5)).setCell ⟨w.heap.size + 1 + 1, 0, none⟩ (.slice an nx.length cn)).setCell ⟨w.heap.size + 1 + 1 + 1, 0, none⟩ (.int .i64 0))) := Lib.hid (by
        refine ⟨(TV.fin _ HI.out (by have := HSZ.out; have := HZD.out; simp; omega) (fun k' h1 h2 h3 h4 => ?_)).1, rfl, by have := HQ2.out; simp; omega, _, _, by rw [HPRE.out, HSA.out]; exact HT7.out.again⟩
        rw [heap_setCell_other _ _ _ _ (by simp; omega), heap_setCell_other _ _ _ _ (by simp; omega), heap_setCell_other _ _ _ _ (by simp; omega)]
        exact HBK.out k' h1 h2 h3 h4)
      clear hwd c7' c8' f8 c8 c9 HT6 HT4 HCL
      refine wpAnyIn_twoL (i := 0) (j := 1) (listed' := #[true, false, false, false, false]) (listed2 := #[false, true, false, false, false]) (by kernel_rfl) rfl (by rfl) rfl ?_ rfl (by rfl) rfl ?_
      · intro K hK
        go_simp
        refine hK _ _ ?_; clear hK K
        refine wpAnyIn_twoL (i := 1) (j := 2) (listed' := #[true, true, false, false, false]) (listed2 := #[true, false, true, false, false]) (by kernel_rfl) rfl (by rfl) rfl ?_ rfl (by rfl) rfl ?_
        · intro K hK
          go_simp
          refine hK _ _ ?_; clear hK K
          refine wpAnyIn_oneL (i := 2) (listed' := #[true, true, true, false, false]) (by kernel_rfl) rfl (by rfl) rfl ?_
          intro K hK
          go_simp
          refine hK _ _ ?_; clear hK K
          refine wpAnyIn_oneL (i := 3) (listed' := #[true, true, true, true, false]) (by kernel_rfl) rfl (by rfl) rfl ?_
          intro K hK
          go_simp
          refine hK _ _ ?_; clear hK K
          refine wpAnyIn_oneL (i := 4) (listed' := #[true, true, true, true, true]) (by kernel_rfl) rfl (by rfl) rfl ?_
          intro K hK
          go_simp
          refine hK _ _ ?_; clear hK K
          refine wpAnyIn_done (by kernel_rfl) ?_ _
          gi_wp2
          exact HFIN.out
        · intro K hK
          go_simp
          refine hK _ _ ?_; clear hK K
          refine wpAnyIn_oneL (i := 1) (listed' := #[true, true, true, false, false]) (by kernel_rfl) rfl (by rfl) rfl ?_
          intro K hK
          go_simp
          refine hK _ _ ?_; clear hK K
          refine wpAnyIn_oneL (i := 3) (listed' := #[true, true, true, true, false]) (by kernel_rfl) rfl (by rfl) rfl ?_
          intro K hK
          go_simp
          refine hK _ _ ?_; clear hK K
          refine wpAnyIn_oneL (i := 4) (listed' := #[true, true, true, true, true]) (by kernel_rfl) rfl (by rfl) rfl ?_
          intro K hK
          go_simp
          refine hK _ _ ?_; clear hK K
          refine wpAnyIn_done (by kernel_rfl) ?_ _
          gi_wp2
          exact HFIN.out
      · intro K hK
        go_simp
        refine hK _ _ ?_; clear hK K
        refine wpAnyIn_oneL (i := 0) (listed' := #[true, true, false, false, false]) (by kernel_rfl) rfl (by rfl) rfl ?_
        intro K hK
        go_simp
        refine hK _ _ ?_; clear hK K
        refine wpAnyIn_oneL (i := 2) (listed' := #[true, true, true, false, false]) (by kernel_rfl) rfl (by rfl) rfl ?_
        intro K hK
        go_simp
        refine hK _ _ ?_; clear hK K
        refine wpAnyIn_oneL (i := 3) (listed' := #[true, true, true, true, false]) (by kernel_rfl) rfl (by rfl) rfl ?_
        intro K hK
        go_simp
        refine hK _ _ ?_; clear hK K
        refine wpAnyIn_oneL (i := 4) (listed' := #[true, true, true, true, true]) (by kernel_rfl) rfl (by rfl) rfl ?_
        intro K hK
        go_simp
        refine hK _ _ ?_; clear hK K
        refine wpAnyIn_done (by kernel_rfl) ?_ _
        gi_wp2
        exact HFIN.out
    · have hqi : ¬ (q : Int) = (m : Int) := by omega
      gi_wp2_with (first | (refine ⟨trivial, ?_⟩; gi_at_call 40; refine (CallsIn.inRound lp (callsIn_wide.2 HP.out)).mono ?_; go_must (rintro e w4 ⟨⟨u, rfl⟩, ho4, hg4⟩; have HT4 := Lib.hid (HI.out.put hg4 ho4); have HG4' := Lib.hid hg4; have HCL := Lib.hid (HT4.out.grown (gb_alloc w4 (.cells #[.int .i64 (k : Int)] 3) none)); have c8 : w4.cell? ⟨w.heap.size + 1, 0, none⟩ = some (.slice al nll cl) := cell_row HT4.out.b8; clear ho4 hg4)) | (gi_at_builtin; refine app_intIn rfl _ _ rfl (w3.heap.size + 4) (.slice al nll cl) (ns ls) (k : Int) w4.heap.size rfl rfl HCL.out.li (cell_row (j := 0) (heap_at_alloc w4 _)) HCL.out.sz HLB.out ?_; go_must (intro v5 w5 ho5 hg5; rw [← ns_snoc] at ho5; obtain ⟨a5, c5, rfl⟩ := ho5.len; rw [HQ.out] at ho5 ⊢; have f8 : w5.frozen? ⟨w.heap.size + 1, 0, none⟩ = false := frozen_row (blk_kept' HCL.out.b8 hg5 (fun e => by have := (HCL.out.li.lt _ e).1; have := HZ3.out; omega)); have c8' : w5.cell? ⟨w.heap.size + 1, 0, none⟩ = some (.slice al nll cl) := cell_row (blk_kept' HCL.out.b8 hg5 (fun e => by have := (HCL.out.li.lt _ e).1; have := HZ3.out; omega)); have HT6 := Lib.hid (TV.app HCL.out hg5 ho5); have HG5 := Lib.hid hg5; have c7' : (w5.setCell ⟨w.heap.size + 1, 0, none⟩ (.slice a5 q c5)).cell? ⟨w.heap.size, 0, none⟩ = some (.int .i64 (m : Int)) := cell_row HT6.out.b7; clear ho5 hg5)) | fail)
      have HQN : Hid (q ≠ m) := Lib.hid hqm
      refine and_assoc.1 ⟨TV.fin _ HI.out ?_ (body_keep HG4'.out HG5.out (fun k' _ h => heap_setCell_other _ _ _ _ (by simp; omega))), by have := HQ2.out; have := HLN.out; have := HQN.out; simp; omega, _, _, by rw [HPRE.out, HSA.out]; exact HT6.out⟩
      have h1 := HG4'.out.size
      have h2 := HG5.out.size
      simp at h2 ⊢
      omega
  case done =>
    rintro D ys W hD hys ⟨hlen, lv, nv, hI⟩ hK
    have hoo : oo = .error 13 := by
      rw [← HOO.out, if_pos]
      rw [← hys, List.length_map]
      exact hlen
    subst hoo
    obtain ⟨al, cl, rfl⟩ := hI.li.len
    obtain ⟨an, cn, rfl⟩ := hI.nx.rd.len
    have hp := hI.pz
    have hD2 : w3.heap.size + 4 ≤ D := by rw [← HZ4.out]; exact hD
    have s1 : W.grownBy (W.setCell ⟨w.heap.size + 1, 0, none⟩ (.slice none 0 0)) (some (w.heap.size + 1)) := gb_setCell _ _ _
    have s2 : (W.setCell ⟨w.heap.size + 1, 0, none⟩ (.slice none 0 0)).grownBy ((W.setCell ⟨w.heap.size + 1, 0, none⟩ (.slice none 0 0)).setCell ⟨w.heap.size + 1 + 1, 0, none⟩ (.slice none 0 0)) (some (w.heap.size + 1 + 1)) := gb_setCell _ _ _
    have s3 : ((W.setCell ⟨w.heap.size + 1, 0, none⟩ (.slice none 0 0)).setCell ⟨w.heap.size + 1 + 1, 0, none⟩ (.slice none 0 0)).grownBy (((W.setCell ⟨w.heap.size + 1, 0, none⟩ (.slice none 0 0)).setCell ⟨w.heap.size + 1 + 1, 0, none⟩ (.slice none 0 0)).setCell ⟨w.heap.size + 1 + 1 + 1, 0, none⟩ (.int .i64 13)) (some (w.heap.size + 1 + 1 + 1)) := gb_setCell _ _ _
    have t8 := blk_kept' (blk_kept' (heap_setCell_same W (w.heap.size + 1) 0 _ _ (.slice none 0 0) hI.b8) s2 (fun e => by have := Option.some.inj e; omega)) s3 (fun e => by have := Option.some.inj e; omega)
    have t9a := blk_kept' hI.b9 s1 (fun e => by have := Option.some.inj e; omega)
    have t9 := blk_kept' (heap_setCell_same _ (w.heap.size + 1 + 1) 0 _ _ (.slice none 0 0) t9a) s3 (fun e => by have := Option.some.inj e; omega)
    have t10a := blk_kept' (blk_kept' hI.b10 s1 (fun e => by have := Option.some.inj e; omega)) s2 (fun e => by have := Option.some.inj e; omega)
    have t10 := heap_setCell_same _ (w.heap.size + 1 + 1 + 1) 0 _ _ (.int .i64 13) t10a
    have c8 : W.cell? ⟨w.heap.size + 1, 0, none⟩ = some (.slice al (ns (ys.map (·.1))).length cl) := cell_row hI.b8
    have f8 : W.frozen? ⟨w.heap.size + 1, 0, none⟩ = false := frozen_row hI.b8
    have f9 : (W.setCell ⟨w.heap.size + 1, 0, none⟩ (.slice none 0 0)).frozen? ⟨w.heap.size + 1 + 1, 0, none⟩ = false := frozen_row t9a
    have c9 : (W.setCell ⟨w.heap.size + 1, 0, none⟩ (.slice none 0 0)).cell? ⟨w.heap.size + 1 + 1, 0, none⟩ = some (.slice an (setAll l (ys.map (·.1))).length cn) := cell_row t9a
    have f10 : ((W.setCell ⟨w.heap.size + 1, 0, none⟩ (.slice none 0 0)).setCell ⟨w.heap.size + 1 + 1, 0, none⟩ (.slice none 0 0)).frozen? ⟨w.heap.size + 1 + 1 + 1, 0, none⟩ = false := frozen_row t10a
    have c10 : ((W.setCell ⟨w.heap.size + 1, 0, none⟩ (.slice none 0 0)).setCell ⟨w.heap.size + 1 + 1, 0, none⟩ (.slice none 0 0)).cell? ⟨w.heap.size + 1 + 1 + 1, 0, none⟩ = some (.int .i64 0) := cell_row t10a
    have HG3 : Hid (w.grownBy (((W.setCell ⟨w.heap.size + 1, 0, none⟩ (.slice none 0 0)).setCell ⟨w.heap.size + 1 + 1, 0, none⟩ (.slice none 0 0)).setCell ⟨w.heap.size + 1 + 1 + 1, 0, none⟩ (.int .i64 13)) none) := Lib.hid (gb_trans (gb_trans (gb_trans hI.gb s1 (fun r e => .inr (by have := Option.some.inj e; omega))) s2 (fun r e => .inr (by have := Option.some.inj e; omega))) s3 (fun r e => .inr (by have := Option.some.inj e; omega)))
    have HK3 : Hid ((((W.setCell ⟨w.heap.size + 1, 0, none⟩ (.slice none 0 0)).setCell ⟨w.heap.size + 1 + 1, 0, none⟩ (.slice none 0 0)).setCell ⟨w.heap.size + 1 + 1 + 1, 0, none⟩ (.int .i64 13)).heap[D]? = some (.deferred (some []))) := Lib.hid (blk_kept' (blk_kept' (blk_kept' hK s1 (fun e => by have := Option.some.inj e; omega)) s2 (fun e => by have := Option.some.inj e; omega)) s3 (fun e => by have := Option.some.inj e; omega))
    have T8 := Lib.hid t8
    have T9 := Lib.hid t9
    have T10 := Lib.hid t10
    have HD2 := Lib.hid hD2
    have HP := Lib.hid hp
    clear hys hK hI hlen hD hD2 s1 s2 s3 t8 t9a t9 t10a t10 hp
    gi_wp2
    generalize ((W.setCell ⟨w.heap.size + 1, 0, none⟩ (.slice none 0 0)).setCell ⟨w.heap.size + 1 + 1, 0, none⟩ (.slice none 0 0)).setCell ⟨w.heap.size + 1 + 1 + 1, 0, none⟩ (.int .i64 13) = X at *
    refine ⟨by simp, .inl ⟨_, _, rfl, run_takeDeferred HK3.out, ?_⟩⟩
    have gP := grownBy_putObj' X D (.deferred none)
    have hDn := HD2.out
    have hp := HP.out
    have y8 : (X.putObj D (.deferred none)).cell? ⟨w.heap.size + 1, 0, none⟩ = some (.slice none 0 0) := cell_row (blk_kept' T8.out gP (fun e => by have := Option.some.inj e; omega))
    have y9 : (X.putObj D (.deferred none)).cell? ⟨w.heap.size + 1 + 1, 0, none⟩ = some (.slice none 0 0) := cell_row (blk_kept' T9.out gP (fun e => by have := Option.some.inj e; omega))
    have y10 : (X.putObj D (.deferred none)).cell? ⟨w.heap.size + 1 + 1 + 1, 0, none⟩ = some (.int .i64 13) := cell_row (blk_kept' T10.out gP (fun e => by have := Option.some.inj e; omega))
    have HG9 : Hid (w.grownBy (X.putObj D (.deferred none)) none) := Lib.hid (gb_trans HG3.out gP (fun r e => .inr (by have := Option.some.inj e; omega)))
    refine ⟨.tuple #[.slice none 0 0, .slice none 0 0, .int .i64 13], ?_, rfl, HG9.out⟩
    simp [results, Try.results24, go_sem, y8, y9, y10]
  case stop =>
    rintro D cd pre W hD ⟨x, hfx, hxt, hb, hys⟩ ⟨rfl, hlen, lv, nv, hI⟩ hK
    have htk := findL_take hfx hxt hb
    have hl2 : m = (findL l f x false).length + 1 := by have h0 := congrArg List.length hys; rw [List.length_map, hlen] at h0; rw [h0]; simp
    have hoo : oo = .ok (pre.map (·.1), setAll l (pre.map (·.1))) := by
      have h1 : (findL l f t false).take m = pre.map (·.1) := by rw [hl2, htk, hys]
      have h2 : ¬ (findL l f t false).length < m := by
        intro h3
        have h4 := congrArg List.length h1
        rw [List.length_take, List.length_map, hlen] at h4
        omega
      rw [← HOO.out, if_neg h2, h1]
    subst hoo
    have hp := hI.pz
    have hD2 : w3.heap.size + 4 ≤ D := by rw [← HZ4.out]; exact hD
    have gP := grownBy_putObj' W D (.deferred none)
    have hI2 := hI.abide gP (fun r e => ⟨by have := Option.some.inj e; omega, by cases e; exact ⟨_, hK, rfl⟩⟩)
    have y8 : (W.putObj D (.deferred none)).cell? ⟨w.heap.size + 1, 0, none⟩ = some lv := cell_row hI2.b8
    have y9 : (W.putObj D (.deferred none)).cell? ⟨w.heap.size + 1 + 1, 0, none⟩ = some nv := cell_row hI2.b9
    have y10 : (W.putObj D (.deferred none)).cell? ⟨w.heap.size + 1 + 1 + 1, 0, none⟩ = some (.int .i64 0) := cell_row hI2.b10
    have HK := Lib.hid hK
    have HI2 := Lib.hid hI2
    clear htk hl2 hys hK hI hlen hD hD2 hp gP hI2
    gi_wp2
    refine ⟨by simp, .inl ⟨_, _, rfl, run_takeDeferred HK.out, ?_⟩⟩
    refine ⟨.tuple #[lv, nv, .int .i64 0], ?_, lv, nv, rfl, HI2.out.li.mono (by have := HI2.out.pz; omega), HI2.out.nx.mono (by omega), HI2.out.gb, fun k hk e => by have := (HI2.out.li.lt k hk).1; have := HI2.out.nlt k e; omega⟩
    simp [results, Try.results24, go_sem, y8, y9, y10]
set_option maxRecDepth 100000 in
set_option maxHeartbeats 1000000 in
theorem take_no (v : Value) (l : List UInt8) (x y n : Int) (w : World) (hv : Rd w v l) (b : Bool) (hs : ∀ W, w.grownBy W none → Calls Try.prog 35 #[v, .int .i64 x, .int .i64 y] W fun e w' => e = .returned (.bool b) ∧ W = w') (hb : b = false ∨ (b = true ∧ n < 1)) :
    Calls Try.prog 24 #[v, .int .i64 x, .int .i64 y, .int .i64 n] w (TakeP w (.error 1)) := by
  have hgA : w.grownBy ((((w.alloc (.cells #[.int .i64 n] 3)).alloc (.cells #[.slice none 0 0] 40)).alloc (.cells #[.slice none 0 0] 22)).alloc (.cells #[.int .i64 0] 27)) none := gb_same (gb_same (gb_same (gb_alloc _ _ _) (gb_alloc _ _ _)) (gb_alloc _ _ _)) (gb_alloc _ _ _)
  have HS := Lib.hid (hs _ hgA)
  have HG : Hid (∀ c8 c9 c10, w.grownBy ((((w.alloc (.cells #[.int .i64 n] 3)).alloc (.cells c8 40)).alloc (.cells c9 22)).alloc (.cells c10 27)) none) := Lib.hid (fun _ _ _ => gb_same (gb_same (gb_same (gb_alloc _ _ _) (gb_alloc _ _ _)) (gb_alloc _ _ _)) (gb_alloc _ _ _))
  obtain ⟨a, c, rfl⟩ := hv.len
  clear hs hgA hv
  rcases hb with rfl | ⟨rfl, hn⟩
  · go_enter Try.func24, Try.ntmps24
    go_wp2_with (go_at_call 35; refine HS.out.mono ?_; rintro e w' ⟨rfl, rfl⟩)
    refine bodyPost_ret (v := .tuple #[.slice none 0 0, .slice none 0 0, .int .i64 1]) (by simp [results, Try.results24, go_sem]) rfl ?_
    exact ⟨rfl, HG.out _ _ _⟩
  · go_enter Try.func24, Try.ntmps24
    go_wp2_with (go_at_call 35; refine HS.out.mono ?_; rintro e w' ⟨rfl, rfl⟩)
    refine bodyPost_ret (v := .tuple #[.slice none 0 0, .slice none 0 0, .int .i64 1]) (by simp [results, Try.results24, go_sem]) rfl ?_
    exact ⟨rfl, HG.out _ _ _⟩
theorem take_any (v : Value) (l : List UInt8) (x y n : Int) (w : World) (hv : Rd w v l) (hl : l.length ≤ 1000000) (hn2 : n ≤ 9223372036854775807) :
    Calls Try.prog 24 #[v, .int .i64 x, .int .i64 y, .int .i64 n] w (TakeP w (takeO l x y n)) := by
  by_cases hb : validB l x y = true
  · by_cases hn : 1 ≤ n
    · obtain ⟨f, t, rfl, rfl, hft, ht⟩ := validB_spec hb
      obtain ⟨m, rfl⟩ := Int.eq_ofNat_of_zero_le (show 0 ≤ n by omega)
      exact take_ok v l f t m w hft ht (by omega) hn2 hv hl
    · have eO : takeO l x y n = .error 1 := by unfold takeO; rw [hb, show (true && decide (1 ≤ n)) = false by simp [hn], if_neg (by simp)]
      rw [eO]
      exact take_no v l x y n w hv true (fun W hg => by have hs := valid_any v l x y W (hv.grown hg) hl; rw [hb] at hs; exact hs) (.inr ⟨rfl, by omega⟩)
  · have hb2 : validB l x y = false := by simpa using hb
    have eO : takeO l x y n = .error 1 := by unfold takeO; rw [hb2, Bool.false_and, if_neg (by simp)]
    rw [eO]
    exact take_no v l x y n w hv false (fun W hg => by have hs := valid_any v l x y W (hv.grown hg) hl; rw [hb2] at hs; exact hs) (.inl rfl)
end Go.Proofs.Ytpfeaeklenopdaa
