/-
  wire.Bytes.
-/
import Derived.Test.YtfldooljmjeaoaaVD
namespace Go.Proofs.Ytfldooljmjeaoaa
open Go.RowKit Go.Shelf
theorem sz_msg : (Try.prog.info? 39).map (·.size) = some 9 := by kernel_rfl

theorem sz5 : (Try.prog.info? 5).map (·.size) = some 1 := by kernel_rfl

theorem is_copy {ops : Array Oper} {rest : List Oper} {a : Act} {w : World} {Q : Exit → Act → World → Prop} (k x y : Tmp) {ty : TypeId} {ps : String} {af : Array Edge}
    (h : wpList Try.prog ops Q ({ dst := some k, op := .call { callee := .builtin .copy, args := #[.tmp x, .tmp y], argTypes := #[22, 22] }, type := ty, pos := ps, after := af, guard := none } :: rest) a w) :
    wpList Try.prog ops Q ({ dst := some k, op := .call { callee := .builtin .copy, args := #[.tmp x, .tmp y], argTypes := #[22, 22] }, type := ty, pos := ps, after := af, guard := none } :: rest) a w := h

theorem wpl_copy {w : World} {ops : Array Oper} {rest : List Oper} {o : Oper} {a : Act} {Q : Exit → Act → World → Prop} (hgd : o.guard = none) (d s : Operand)
    (ho : o.op = .call { callee := .builtin .copy, args := #[d, s], argTypes := #[22, 22] })
    (dp sp : Option Addr) (dLen dCap sLen sCap : Nat) (hd : a.eval d = .slice dp dLen dCap) (hs : a.eval s = .slice sp sLen sCap)
    (g off : Nat) (cur : List Value) (hg : w.heap[g]? = some (.cells cur.toArray 5 (0, 0))) (cs : List Value) (hn : cs.length = Nat.min sLen dLen)
    (hpos : 0 < cs.length → dp = some ⟨g, off, none⟩ ∧ ∃ ad, sp = some ad ∧ ∀ j v, cs[j]? = some v → w.cell? (ad.add j) = some v)
    (hfit : off + cs.length ≤ cur.length) (h1 : ∀ v ∈ cs, v.oneCell' = true)
    (h : ∀ w', w'.heap[g]? = some (.cells (splice cur off cs).toArray 5 (0, 0)) → w.grownBy w' (some g) → wpList Try.prog ops Q rest (a.put o.dst (goInt cs.length)) w') :
    wpList Try.prog ops Q (o :: rest) a w := by
  by_cases h0 : cs.length = 0
  · obtain rfl : cs = [] := List.eq_nil_of_length_eq_zero h0
    refine wpList_copy_nothing hgd d s _ _ ho 5 Try.underlying22 sz5 dp sp dLen dCap sLen sCap hd hs (by simpa using hn.symm) ?_
    exact h w (by simpa [splice] using hg) (gb_refl _ _)
  · obtain ⟨rfl, ad, rfl, hsrc⟩ := hpos (by omega)
    refine wpList_copy_own hgd d s _ _ ho 5 Try.underlying22 sz5 g off dLen dCap ad sLen sCap hd hs cur.toArray _ hg cs hn hsrc (by simpa using hfit) h1 ?_
    exact h _ (by simpa [splice] using setRow_heap w g _ _ _ _ hg) (gb_setRow w g _)

theorem splice2 {α : Type} {L A Y Z : List α} {a y z : Nat} (hA : L.take a = A) (hy : Y.length = y) (hz : Z.length = z) (hl : a + y + z ≤ L.length) :
    (splice (splice L (a + y) Z) a Y).take (a + y + z) = A ++ (Y ++ Z) := by
  have ha : A.length = a := by rw [← hA, List.length_take]; omega
  have e1 : (splice L (a + y) Z).take a = A := by
    unfold splice
    rw [List.take_append_of_le_length (by rw [List.length_take]; omega), List.take_take, ← hA]
    congr 1; omega
  have e2 : (splice L (a + y) Z).drop (a + y) = Z ++ L.drop (a + y + z) := by
    unfold splice
    rw [hz, List.drop_append_of_le_length (by rw [List.length_take]; omega)]
    rw [List.drop_eq_nil_iff.2 (by rw [List.length_take]; omega)]
    rfl
  have e3 : splice (splice L (a + y) Z) a Y = A ++ (Y ++ Z) ++ L.drop (a + y + z) := by
    show (splice L (a + y) Z).take a ++ (Y ++ (splice L (a + y) Z).drop (a + Y.length)) = _
    rw [e1, hy, e2]
    simp
  rw [e3, List.take_append_of_le_length (by simp only [List.length_append]; omega)]
  rw [List.take_of_length_le (by simp only [List.length_append]; omega)]

theorem Rd.src {w : World} {a : Option Addr} {n c : Nat} {z : List UInt8} (h : Rd w (.slice a n c) z) (hp : 0 < (bvs z).length) : ∃ ad, a = some ad ∧ ∀ j v, (bvs z)[j]? = some v → w.cell? (ad.add j) = some v := by
  rcases h with ⟨_, rfl⟩ | ⟨b, off, cap, h0, h1, h2, h3⟩
  · simp [bvs] at hp
  · simp only [Value.slice.injEq] at h0
    refine ⟨⟨b, off, none⟩, h0.1, fun j v hj => ?_⟩
    rw [bvs_get] at hj
    cases hm : z[j]? with
    | none => simp [hm] at hj
    | some x => simp only [hm, Option.map_some, Option.some.injEq] at hj; subst hj; rw [addr_add]; exact h3 j x hm
theorem mkOwn {w : World} {B g n c : Nat} {cs : List Value} {l : List UInt8} (hg : w.heap[g]? = some (.cells cs.toArray 5 (0, 0))) (hB : B ≤ g) (hl : l.length = n) (hn : n ≤ c) (hc : c ≤ maxLen) (hs : cs.length = c) (ht : cs.take n = bvs l) :
    Own w B (.slice (some ⟨g, 0, none⟩) n c) l := by
  subst hl
  exact ⟨by simp [bvs], .inr ⟨g, c, cs.toArray, rfl, hB, hg, hn, hc, by simpa using hs, by rw [Nat.mul_one]; exact ht⟩⟩

theorem RdW.src {w : World} {a : Option Addr} {n c : Nat} {z : List UInt8} (h : RdW w (.slice a n c) z) (hp : 0 < (bvs z).length) : ∃ ad, a = some ad ∧ ∀ j v, (bvs z)[j]? = some v → w.cell? (ad.add j) = some v :=
  Rd.src (h.ne (by rintro rfl; simp [bvs] at hp)) hp

/-- b, then head and the length of data, then data; the frame is told from an elder world -/
def DataPost (w0 : World) (B : Nat) (v : Value) (l : List UInt8) (e : Ending) (w' : World) : Prop :=
  ∃ v', e = .returned v' ∧ Own w' B v' l ∧ w0.grownBy w' v.ownBlock ∧ Fr w0 v v'

set_option maxRecDepth 100000 in
set_option maxHeartbeats 1000000 in
theorem withDataW_any (w0 : World) (v hv dv : Value) (w : World) (B BH : Nat) (x y z : List UInt8) (hown : Own w B v x) (hhd : Own w BH hv y) (hd : RdW w dv z) (hB : B ≤ w.heap.size) (hBH : BH ≤ w.heap.size)
    (h0 : w0.grownBy w v.ownBlock) (hh0 : ∀ k, hv.ownBlock = some k → w0.heap.size ≤ k)
    (hvh : ∀ k, v.ownBlock = some k → hv.ownBlock ≠ some k) (hdv : z ≠ [] → ∀ k, dv.ownBlock = some k → v.ownBlock ≠ some k) (hdh : z ≠ [] → ∀ k, dv.ownBlock = some k → hv.ownBlock ≠ some k)
    (hx : x.length ≤ 274877906944) (hy : y.length ≤ 274877906944) (hz : z.length ≤ 274877906944) :
    Calls Try.prog 61 #[v, hv, dv] w (DataPost w0 B v (x ++ (y ++ enc z.length) ++ z)) := by
  obtain ⟨l, hlq⟩ : ∃ l, l = x ++ (y ++ enc z.length) ++ z := ⟨_, rfl⟩
  rw [← hlq]
  have HLQ := Lib.hid hlq
  clear hlq
  have hel := enc_len (z.length : Int)
  obtain ⟨av, cv, rfl⟩ := hown.rd.len
  obtain ⟨ah, ch, rfl⟩ := hhd.rd.len
  obtain ⟨ad, cd, rfl⟩ := hd.len
  have HC := Lib.hid (int_any _ (z.length : Int) w BH y (by omega) (by omega) hhd hBH (by omega))
  have HO := Lib.hid hown
  have HD := Lib.hid hd
  have HE := Lib.hid hel
  have H1 := Lib.hid (And.intro hvh (And.intro hdv hdh))
  have H0 := Lib.hid (And.intro h0 hh0)
  have HH := Lib.hid hhd
  clear hown hhd hd hel hvh hdv hdh h0 hh0
  go_enter Try.func61, Try.ntmps61
  go_wp2_with fail
  refine HC.out.mono ?_
  rintro e w1 ⟨h1, rfl, ho1, hg1, hf1⟩
  have hyl : (y ++ enc (z.length : Int)).length = y.length + (enc (z.length : Int)).length := List.length_append
  obtain ⟨ah1, ch1, rfl⟩ := ho1.rd.len
  have HY := Lib.hid hyl
  generalize (y ++ enc (z.length : Int)) = Y at *
  clear hyl
  have hY1 : 1 ≤ Y.length := by have := HY.out; have := HE.out; omega
  have hY2 : Y.length ≤ 274877906954 := by have := HY.out; have := HE.out; omega
  have HO1 : Hid (Own w1 B (.slice av x.length cv) x) := Lib.hid (HO.out.kept hg1 (fun k hk => H1.out.1 k hk))
  have HD1 : Hid (RdW w1 (.slice ad z.length cd) z) := Lib.hid (by
    exact HD.out.kept hg1 (fun hzz k hk => H1.out.2.2 hzz k hk))
  have hgr := grow_any _ w1 B x (Y.length + z.length) HO1.out (Nat.le_trans hB hg1.size) (by omega) (by omega)
  rw [Int.natCast_add] at hgr
  have HGR := Lib.hid hgr
  have HO1' := Lib.hid ho1
  have G1 := Lib.hid hg1
  have F1 := Lib.hid hf1
  clear hgr ho1 hg1 hf1
  go_wp2_with fail
  refine HGR.out.mono ?_
  rintro e w2 ⟨a, c, rfl, hc, ho2, hg2, hf2⟩
  have ho2' := ho2
  rcases ho2.2 with ⟨h7, h8⟩ | ⟨g, cap, cur, h9, hbg, hgg, hnc, hcm, hcs, htake⟩
  · simp only [Value.slice.injEq] at h7; omega
  simp only [Value.slice.injEq, true_and] at h9
  obtain ⟨rfl, rfl⟩ := h9
  have hcur : cur.toList.length = c := by rw [Array.length_toList]; simpa using hcs
  have htk : cur.toList.take x.length = bvs x := by rw [Nat.mul_one] at htake; exact htake
  have HG2 : Hid (w2.heap[g]? = some (.cells cur.toList.toArray 5 (0, 0))) := Lib.hid (by simpa using hgg)
  have hcm' : c ≤ 9223372036854775807 := by simp only [maxLen] at hcm; omega
  have HT := Lib.hid (And.intro hcur htk)
  have G2 := Lib.hid hg2
  have F2 := Lib.hid hf2
  have HB2 := Lib.hid hbg
  generalize cur.toList = L at *
  clear ho2 ho2' hgg hcs htake hcur htk hg2 hf2 hcm hnc
  have hh1lt : Hid (∀ k, (Value.slice ah1 Y.length ch1).ownBlock = some k → k ≠ g) := Lib.hid (fun k hk e => by
    subst e
    have h10 := (HO1'.out.lt k hk).2
    rcases F2.out k rfl with h11 | h11
    · rcases F1.out k hk with h12 | h12
      · exact H1.out.1 k h11 h12
      · have := (HO.out.lt k h11).2; omega
    · omega)
  have hdlt : Hid (z ≠ [] → ∀ k, (Value.slice ad z.length cd).ownBlock = some k → k ≠ g) := Lib.hid (fun hzz k hk e => by
    subst e
    have h10 := RdW.blk HD1.out hzz k hk
    rcases F2.out k rfl with h11 | h11
    · exact H1.out.2.1 hzz k hk h11
    · omega)
  have HD2 : Hid (RdW w2 (.slice ad z.length cd) z) := Lib.hid (HD1.out.grown G2.out)
  have HY2 := Lib.hid (HO1'.out.grown G2.out)
  by_cases hfull : x.length + Y.length < c
  · go_wp2_with (first | ((with_reducible refine is_copy 36 34 35 ?_); refine wpl_copy rfl _ _ rfl _ _ _ _ _ _ rfl rfl g (x.length + Y.length) L HG2.out (bvs z) (by show _ = min _ _; rw [bvs_length]; omega) (fun hp => ⟨rfl, RdW.src HD2.out hp⟩) (by rw [bvs_length, HT.out.1]; omega) (bvs_one z) ?_; intro w3 hb3 hg3; have HB3 := Lib.hid hb3; have G3 := Lib.hid hg3; have HY3 := Lib.hid (HY2.out.kept G3.out (fun k hk e => hh1lt.out k hk (by simpa using e.symm))); clear hb3 hg3) | ((with_reducible refine is_copy 41 39 40 ?_); refine wpl_copy rfl _ _ rfl _ _ _ _ _ _ rfl rfl g x.length (splice L (x.length + Y.length) (bvs z)) HB3.out (bvs Y) (by show _ = min _ _; rw [bvs_length]; omega) (fun hp => ⟨rfl, Rd.src HY3.out.rd hp⟩) (by rw [length_splice _ _ _ (by rw [bvs_length, HT.out.1]; omega), bvs_length, HT.out.1]; omega) (bvs_one Y) ?_; intro w4 hb4 hg4; have HB4 := Lib.hid hb4; have G4 := Lib.hid hg4; clear hb4 hg4))
    go_ret
    refine ⟨_, rfl, ?_, ?_, ?_⟩
    · refine mkOwn HB4.out HB2.out (by rw [HLQ.out]; simp only [List.length_append]) (by omega) (by simp only [maxLen]; omega) ?_ ?_
      · rw [length_splice _ _ _ (by rw [length_splice _ _ _ (by rw [bvs_length, HT.out.1]; omega), bvs_length, HT.out.1]; omega), length_splice _ _ _ (by rw [bvs_length, HT.out.1]; omega)]; exact HT.out.1
      · rw [splice2 HT.out.2 (bvs_length Y) (bvs_length z) (by rw [HT.out.1]; omega), HLQ.out, bvs_append, bvs_append, List.append_assoc]
    · have k1 : w0.grownBy w1 _ := gb_trans H0.out.1 G1.out (fun k hk => .inr (H0.out.2 k hk))
      have k2 := gb_trans0 k1 G2.out
      have hgk : ∀ k, some g = some k → (Value.slice av x.length cv).ownBlock = some k ∨ w0.heap.size ≤ k := fun k hk => by
        simp only [Option.some.injEq] at hk
        subst hk
        rcases F2.out g rfl with h11 | h11
        · exact .inl h11
        · exact .inr (by have := k1.size; omega)
      exact gb_trans (gb_trans k2 G3.out hgk) G4.out hgk
    · intro k hk
      change some g = some k at hk
      cases hk
      have k1 : w0.grownBy w1 _ := gb_trans H0.out.1 G1.out (fun k hk => .inr (H0.out.2 k hk))
      rcases F2.out g rfl with h11 | h11
      · exact .inl h11
      · exact .inr (by have := k1.size; omega)
  · obtain rfl : z = [] := List.eq_nil_of_length_eq_zero (by omega)
    obtain rfl : c = x.length + Y.length := by simp at hc; omega
    have hYn : ¬ (Y = []) := by rintro rfl; simp at hY1
    go_wp2_with (first | ((with_reducible refine is_copy 36 34 35 ?_); refine wpl_copy rfl _ _ rfl _ _ _ _ _ _ rfl rfl g (x.length + Y.length) L HG2.out (bvs []) (by show _ = min _ _; rw [bvs_length]; simp) (fun hp => by simp [bvs] at hp) (by rw [bvs_length, HT.out.1]; simp) (bvs_one []) ?_; intro w3 hb3 hg3; have HB3 := Lib.hid hb3; have G3 := Lib.hid hg3; have HY3 := Lib.hid (HY2.out.kept G3.out (fun k hk e => hh1lt.out k hk (by simpa using e.symm))); clear hb3 hg3) | ((with_reducible refine is_copy 41 39 40 ?_); refine wpl_copy rfl _ _ rfl _ _ _ _ _ _ rfl rfl g x.length (splice L (x.length + Y.length) (bvs [])) HB3.out (bvs Y) (by show _ = min _ _; rw [bvs_length]; simp) (fun hp => ⟨rfl, Rd.src HY3.out.rd hp⟩) (by rw [length_splice _ _ _ (by rw [bvs_length, HT.out.1]; simp), bvs_length, HT.out.1]; simp) (bvs_one Y) ?_; intro w4 hb4 hg4; have HB4 := Lib.hid hb4; have G4 := Lib.hid hg4; clear hb4 hg4))
    go_ret
    refine ⟨_, rfl, ?_, ?_, ?_⟩
    · refine mkOwn HB4.out HB2.out (by rw [HLQ.out]; simp) (Nat.le_refl _) (by simp only [maxLen]; omega) ?_ ?_
      · rw [length_splice _ _ _ (by rw [length_splice _ _ _ (by rw [bvs_length, HT.out.1]; simp), bvs_length, HT.out.1]; omega), length_splice _ _ _ (by rw [bvs_length, HT.out.1]; simp)]; exact HT.out.1
      · rw [HLQ.out, bvs_append, bvs_append, List.append_assoc]
        exact splice2 HT.out.2 (bvs_length Y) (bvs_length []) (by rw [HT.out.1]; simp)
    · have k1 : w0.grownBy w1 _ := gb_trans H0.out.1 G1.out (fun k hk => .inr (H0.out.2 k hk))
      have k2 := gb_trans0 k1 G2.out
      have hgk : ∀ k, some g = some k → (Value.slice av x.length cv).ownBlock = some k ∨ w0.heap.size ≤ k := fun k hk => by
        simp only [Option.some.injEq] at hk
        subst hk
        rcases F2.out g rfl with h11 | h11
        · exact .inl h11
        · exact .inr (by have := k1.size; omega)
      exact gb_trans (gb_trans k2 G3.out hgk) G4.out hgk
    · intro k hk
      change some g = some k at hk
      cases hk
      have k1 : w0.grownBy w1 _ := gb_trans H0.out.1 G1.out (fun k hk => .inr (H0.out.2 k hk))
      rcases F2.out g rfl with h11 | h11
      · exact .inl h11
      · exact .inr (by have := k1.size; omega)

theorem withData_any (w0 : World) (v hv dv : Value) (w : World) (B BH : Nat) (x y z : List UInt8) (hown : Own w B v x) (hhd : Own w BH hv y) (hd : Rd w dv z) (hB : B ≤ w.heap.size) (hBH : BH ≤ w.heap.size)
    (h0 : w0.grownBy w v.ownBlock) (hh0 : ∀ k, hv.ownBlock = some k → w0.heap.size ≤ k)
    (hvh : ∀ k, v.ownBlock = some k → hv.ownBlock ≠ some k) (hdv : z ≠ [] → ∀ k, dv.ownBlock = some k → v.ownBlock ≠ some k) (hdh : z ≠ [] → ∀ k, dv.ownBlock = some k → hv.ownBlock ≠ some k)
    (hx : x.length ≤ 274877906944) (hy : y.length ≤ 274877906944) (hz : z.length ≤ 274877906944) :
    Calls Try.prog 61 #[v, hv, dv] w (DataPost w0 B v (x ++ (y ++ enc z.length) ++ z)) := withDataW_any w0 v hv dv w B BH x y z hown hhd hd.w hB hBH h0 hh0 hvh hdv hdh hx hy hz
end Go.Proofs.Ytfldooljmjeaoaa
