/-
  image.Diff: the walk.
-/
import Derived.Test.YtnkgoaloigmmfaaIRound
import Derived.Test.YtnkgoaloigmmfaaRow
namespace Go.Proofs.Ytnkgoaloigmmfaa
open Go.RowKit Go.Shelf

attribute [local go_sem] Oper.semAt_some

def diffAt (a b : List UInt8) (k : Nat) : List CT := if pg b k == pg a k then [] else [((k : Int), pg b k)]
def diffTo (a b : List UInt8) (ks : List Nat) : List CT := ks.flatMap (diffAt a b)
def diffL (a b : List UInt8) : List CT := diffTo a b (List.range (cntI b.length).toNat)
theorem diffTo_snoc (a b : List UInt8) (ks : List Nat) (k : Nat) : diffTo a b (ks ++ [k]) = diffTo a b ks ++ diffAt a b k := by simp [diffTo]
theorem diffTo_len (a b : List UInt8) (ks : List Nat) : (diffTo a b ks).length ≤ ks.length := by
  induction ks with
  | nil => simp [diffTo]
  | cons k ks ih =>
    simp only [diffTo, List.flatMap_cons, List.length_append, List.length_cons] at ih ⊢
    have : (diffAt a b k).length ≤ 1 := by unfold diffAt; split <;> simp
    omega

def PatP (w : World) (n : Int) (cs : List CT) (er : Int) (e : Ending) (w' : World) : Prop :=
  ∃ cv ps, e = .returned (.tuple #[.agg #[.int .i64 n, cv], .int .i64 er]) ∧ ps.map (·.1) = cs ∧ CLp 57 w' w.heap.size cv ps ∧ w.grownBy w' none

set_option maxRecDepth 100000 in
set_option maxHeartbeats 2000000 in
theorem diff_big (va vb : Value) (a b : List UInt8) (w : World) (ha : Rd w va a) (hb : Rd w vb b) (hl : 24000 < b.length) :
    Calls Try.prog 16 #[va, vb] w (PatP w 0 [] 6) := by
  obtain ⟨aa, ca, rfl⟩ := ha.len
  obtain ⟨ab, cb, rfl⟩ := hb.len
  have h1 : (24000 : Int) < b.length := by omega
  clear hl
  go_enter Try.func16, Try.ntmps16
  go_wp2
  refine bodyPost_ret (v := .tuple #[.agg #[.int .i64 0, .slice none 0 0], .int .i64 6]) (by simp [results, Try.results16, go_sem]) rfl ?_
  exact ⟨_, [], rfl, rfl, CLp.nil _ _ _, gb_same (gb_alloc _ _ _) (gb_alloc _ _ _)⟩

def DKp (n₀ P : Nat) (W W' : World) : Prop := W.heap.size ≤ W'.heap.size ∧ ∀ k, k < n₀ → k ≠ P → W'.heap[k]? = W.heap[k]?

theorem frozen_row {w : World} {g j : Nat} {cs : Array Value} {t : TypeId} (h : w.heap[g]? = some (.cells cs t (0, 0))) : w.frozen? ⟨g, j, none⟩ = false := by simp [World.frozen?, h]
theorem DKp.refl (n P : Nat) (W : World) : DKp n P W W := ⟨Nat.le_refl _, fun _ _ _ => rfl⟩
theorem DKp.trans {n P : Nat} {A B C : World} (h : DKp n P A B) (k : DKp n P B C) : DKp n P A C := ⟨Nat.le_trans h.1 k.1, fun i h1 h2 => (k.2 i h1 h2).trans (h.2 i h1 h2)⟩
theorem DKp.put {n P l : Nat} {W : World} {o' : Obj} (h : n ≤ l) : DKp n P W (W.putObj l o') := ⟨by simp, fun k h1 _ => World.putObj_heap_other (by omega)⟩
theorem Rd.blocks {w w' : World} {v : Value} {l : List UInt8} (h : Rd w v l) (hk : ∀ k, k < w.heap.size → w'.heap[k]? = w.heap[k]?) : Rd w' v l := by
  rcases h with h | ⟨b, off, cap, rfl, h1, h2, h3⟩
  · exact .inl h
  · refine .inr ⟨b, off, cap, rfl, h1, h2, fun j x hj => ?_⟩
    have h4 := h3 j x hj
    have h5 : b < w.heap.size := World.block_lt_of_cell? _ _ h4
    unfold World.cell? at h4 ⊢
    rw [hk b h5]; exact h4
/-- what the loop of Diff keeps -/
def DInv (w : World) (va : Value) (a b : List UInt8) (ys : List PgNo) (W : World) : Prop :=
  ∃ cv ps, W.heap[w.heap.size]? = some (.cells #[va] 22 (0, 0)) ∧ W.heap[w.heap.size + 1]? = some (.cells #[.int .i64 0, .slice none 0 0] 29 (0, 0)) ∧
    W.heap[w.heap.size + 1 + 1]? = some (.cells #[.int .i64 (b.length : Int), cv] 29 (0, 0)) ∧ CLp 57 W (w.heap.size + 4) cv ps ∧ ps.map (·.1) = diffTo a b (ys.map (·.1)) ∧ w.grownBy W none ∧ w.heap.size + 4 ≤ W.heap.size
theorem DInv.own (w : World) (va : Value) (a b : List UInt8) (B : Nat) (hB : w.heap.size ≤ B) : OwnFrom B (DInv w va a b) := by
  rintro ys W W' row ⟨cv, ps, h1, h2, h3, h4, h5, h6, h7⟩ hg hr
  have hr' : ∀ r, row = some r → ∃ o : Obj, W.heap[r]? = some o ∧ o.isCells = false := fun r e => (hr r e).2
  exact ⟨cv, ps, (grownBy_keeps_cells hg hr' h1 rfl).trans h1, (grownBy_keeps_cells hg hr' h2 rfl).trans h2, (grownBy_keeps_cells hg hr' h3 rfl).trans h3, h4.abide hg hr', h5, gb_trans h6 hg (fun k e => .inr (by have := (hr k e).1; omega)), Nat.le_trans h7 hg.size⟩

theorem diff_fin {w W w5 w7 : World} {va cv v5 v7 : Value} {a b : List UInt8} {pre : List PgNo} {x : PgNo} {k : Nat} {ps : List ChP} {T : TypeId} {cs : Array Value} (B : Nat)
    (h1 : W.heap[w.heap.size]? = some (.cells #[va] 22 (0, 0))) (h2 : W.heap[w.heap.size + 1]? = some (.cells #[.int .i64 0, .slice none 0 0] 29 (0, 0)))
    (h3 : W.heap[w.heap.size + 1 + 1]? = some (.cells #[.int .i64 (b.length : Int), cv] 29 (0, 0))) (h4 : CLp 57 W (w.heap.size + 4) cv ps) (h5 : ps.map (·.1) = diffTo a b (pre.map (·.1))) (h6 : w.grownBy W none)
    (hD : diffTo a b ((pre ++ [x]).map (·.1)) = diffTo a b (pre.map (·.1)) ++ [((k : Int), pg b k)]) (hz : w.heap.size + 4 ≤ W.heap.size)
    (hg5 : W.drew.grownBy w5 none) (h7 : CLp 57 w7 (w.heap.size + 4) v7 (ps ++ [(((k : Int), pg b k), v5)])) (hg7 : (w5.alloc (.cells cs T)).grownBy w7 cv.ownBlock) :
    KeepsFrom B W (w7.setCell ⟨w.heap.size + 1 + 1, 1, none⟩ v7) ∧ DKp (w.heap.size + 4) (w.heap.size + 1 + 1) W (w7.setCell ⟨w.heap.size + 1 + 1, 1, none⟩ v7) ∧ DInv w va a b (pre ++ [x]) (w7.setCell ⟨w.heap.size + 1 + 1, 1, none⟩ v7) := by
  have g6 : W.grownBy (w5.alloc (.cells cs T)) none := gb_same (gb_same (gb_drew W none) hg5) (gb_alloc _ _ _)
  have hsz : W.heap.size ≤ w7.heap.size := Nat.le_trans g6.size hg7.size
  have hlo : ∀ k, cv.ownBlock = some k → w.heap.size + 4 ≤ k := fun k hk => (h4.1.lt k hk).1
  have keep : ∀ k, k < W.heap.size → cv.ownBlock ≠ some k → k ≠ w.heap.size + 1 + 1 → (w7.setCell ⟨w.heap.size + 1 + 1, 1, none⟩ v7).heap[k]? = W.heap[k]? := fun k hk hne hne2 => by
    rw [heap_setCell_other _ _ _ _ (by simpa using hne2), hg7.block k (Nat.lt_of_lt_of_le hk g6.size) (fun e => hne e.symm), g6.block k hk (by simp)]
  refine ⟨⟨by simpa using hsz, fun j o _ hj ho => ?_⟩, ⟨by simpa using hsz, fun k h1 h2 => keep k (by omega) (fun e => by have := hlo k e; omega) h2⟩, v7, ps ++ [(((k : Int), pg b k), v5)], ?_, ?_, ?_, ?_, ?_, ?_, by simp; omega⟩
  · rw [keep j (Array.getElem?_eq_some_iff.1 hj).1 (fun e => ?_) (fun e => ?_)]
    · exact hj
    · exact noncell_ne h4.1 (row := some j) (fun r e => by cases e; exact ⟨o, hj, ho⟩) j e rfl
    · subst e; rw [h3] at hj; cases hj; cases ho
  · rw [keep _ (by omega) (fun e => by have := hlo _ e; omega) (by omega)]; exact h1
  · rw [keep _ (by omega) (fun e => by have := hlo _ e; omega) (by omega)]; exact h2
  · have h8 : w7.heap[w.heap.size + 1 + 1]? = some (.cells #[.int .i64 (b.length : Int), cv] 29 (0, 0)) := by
      rw [hg7.block _ (by have := g6.size; omega) (fun e => by have := hlo _ e.symm; omega), g6.block _ (by omega) (by simp)]; exact h3
    exact heap_setCell_same _ _ 1 _ _ v7 h8
  · exact h7.kept (gb_setCell _ _ _) (fun k hk => .inl (by cases hk; simp))
  · rw [List.map_append, h5, hD]; simp
  · exact gb_trans (gb_trans (gb_same h6 g6) hg7 (fun k hk => .inr (by have := hlo k hk; omega))) (gb_setCell _ _ _) (fun k hk => .inr (by cases hk; simp; omega))

set_option maxRecDepth 100000 in
set_option maxHeartbeats 2000000 in
theorem diff_any (va vb : Value) (a b : List UInt8) (w : World) (ha : Rd w va a) (hb : Rd w vb b) (hl : b.length ≤ 24000) :
    Calls Try.prog 16 #[va, vb] w (PatP w b.length (diffL a b) 0) := by
  obtain ⟨aa, ca, rfl⟩ := ha.len
  obtain ⟨ab, cb, rfl⟩ := hb.len
  have h1 : ¬ (24000 : Int) < b.length := by omega
  have HA := Lib.hid ha
  have HB := Lib.hid hb
  obtain ⟨N, hN⟩ := Int.eq_ofNat_of_zero_le (cntI_nonneg (b.length : Int))
  have hN2 : N < 1000000 := by have := cntI_le (b.length : Int) (by omega); omega
  have HN := Lib.hid hN
  clear hl ha hb hN
  refine (callsIn_wide (n := 5)).1 ?_
  refine callsIn_of_wp_marks Try.func16 rfl trivial ?_ rfl
  simp only [Try.ntmps16, List.size_toArray, List.length_cons, List.length_nil, Nat.reduceAdd, Nat.reduceSub, Array.replicate_succ, Array.replicate_zero, List.push_toArray, List.append_toArray, List.nil_append, List.cons_append]
  obtain ⟨W3, hW3⟩ : ∃ W3, ((w.alloc (Obj.cells #[Value.slice aa a.length ca] 22)).alloc (Obj.cells #[Value.int IntKind.i64 0, Value.slice none 0 0] 29)).alloc (Obj.cells #[Value.int IntKind.i64 b.length, Value.slice none 0 0] 29) = W3 := ⟨_, rfl⟩
  have hg3 : w.grownBy W3 none := by rw [← hW3]; exact gb_same (gb_same (gb_alloc _ _ _) (gb_alloc _ _ _)) (gb_alloc _ _ _)
  have hz3 : W3.heap.size = w.heap.size + 3 := by rw [← hW3]; simp
  have k0 : W3.heap[w.heap.size]? = some (.cells #[.slice aa a.length ca] 22 (0, 0)) := by rw [← hW3]; exact blk_kept (blk_kept (heap_at_alloc _ _) (gb_alloc _ _ _)) (gb_alloc _ _ _)
  have k1 : W3.heap[w.heap.size + 1]? = some (.cells #[.int .i64 0, .slice none 0 0] 29 (0, 0)) := by rw [← hW3]; have := heap_at_alloc (w.alloc (Obj.cells #[Value.slice aa a.length ca] 22)) (Obj.cells #[Value.int IntKind.i64 0, Value.slice none 0 0] 29); rw [World.size_alloc] at this; exact blk_kept this (gb_alloc _ _ _)
  have k2 : W3.heap[w.heap.size + 1 + 1]? = some (.cells #[.int .i64 b.length, .slice none 0 0] 29 (0, 0)) := by rw [← hW3]; have := heap_at_alloc ((w.alloc (Obj.cells #[Value.slice aa a.length ca] 22)).alloc (Obj.cells #[Value.int IntKind.i64 0, Value.slice none 0 0] 29)) (Obj.cells #[Value.int IntKind.i64 b.length, Value.slice none 0 0] 29); rw [World.size_alloc, World.size_alloc] at this; exact this
  have HW3 := Lib.hid hW3
  have HG3 := Lib.hid hg3
  have HZ3 := Lib.hid hz3
  have K0 := Lib.hid k0
  have K1 := Lib.hid k1
  have K2 := Lib.hid k2
  clear hW3 hg3 hz3 k0 k1 k2
  gi_wp2_with (refine ⟨trivial, ?_⟩; gi_at_call 32; rw [HW3.out]; refine (callsIn_wide.2 (pages_any _ b _ (HB.out.grown HG3.out))).mono ?_; rintro e w' ⟨rfl, rfl⟩)
  have hb4 := heap_at_alloc W3 (Obj.cells #[Value.slice ab b.length cb] 22)
  rw [HZ3.out] at hb4
  rw [show W3.heap.size = w.heap.size + 3 from HZ3.out]
  obtain ⟨W4, hW4⟩ : ∃ W4, W3.alloc (Obj.cells #[Value.slice ab b.length cb] 22) = W4 := ⟨_, rfl⟩
  rw [hW4] at hb4 ⊢
  have hz4 : W4.heap.size = w.heap.size + 4 := by rw [← hW4]; simp [HZ3.out]
  have hg4 : w.grownBy W4 none := by rw [← hW4]; exact gb_same HG3.out (gb_alloc _ _ _)
  have j0 : W4.heap[w.heap.size]? = some (.cells #[.slice aa a.length ca] 22 (0, 0)) := by rw [← hW4]; exact blk_kept K0.out (gb_alloc _ _ _)
  have j1 : W4.heap[w.heap.size + 1]? = some (.cells #[.int .i64 0, .slice none 0 0] 29 (0, 0)) := by rw [← hW4]; exact blk_kept K1.out (gb_alloc _ _ _)
  have j2 : W4.heap[w.heap.size + 1 + 1]? = some (.cells #[.int .i64 b.length, .slice none 0 0] 29 (0, 0)) := by rw [← hW4]; exact blk_kept K2.out (gb_alloc _ _ _)
  have H0 : Hid (DInv w (.slice aa a.length ca) a b [] W4) := Lib.hid ⟨_, [], j0, j1, j2, CLp.nil _ _ _, rfl, hg4, by omega⟩
  have HZ4 := Lib.hid hz4
  have HB4 := Lib.hid hb4
  have HG4 := Lib.hid hg4
  clear hW4 j0 j1 j2 hz4 hb4 hg4 K0 K1 K2 HW3 HG3 HZ3
  refine wpIn_rangeFunc_ownG rfl (by omega) (gf := 39) (lb := #[.pointer (some ⟨w.heap.size + 3, 0, none⟩)]) rfl trivial (enters_of Try.func39 (by kernel_rfl) rfl)
    (pages_stops 4 (by omega) (w.heap.size + 3) (.slice ab b.length cb) b N W4 HN.out hN2 (DKp (w.heap.size + 4) (w.heap.size + 1 + 1)) (DKp.refl _ _) (fun h k => h.trans k) ?hR)
    (fun h k => h.trans k) (fun W l o o' hl _ _ _ => DKp.put (by rw [HZ4.out] at hl; exact hl)) (Below.refl _ _) (fun _ => rfl) (DInv w (.slice aa a.length ca) a b) (fun _ _ _ => False) (DInv.own w _ a b _ (by rw [HZ4.out]; omega)) (fun _ _ _ _ _ hs _ _ => hs) H0.out
    (fun x => { tmps := #[.slice aa a.length ca, .slice ab b.length cb, .pointer (some ⟨w.heap.size, 0, none⟩), undef, .pointer (some ⟨w.heap.size + 1, 0, none⟩), .int .i64 0, .pointer (some ⟨w.heap.size + 1 + 1, 0, none⟩), .int .i64 (x.1 : Int), cutV (.slice ab b.length cb) b.length x.1, .slice ab b.length cb, .int .i64 b.length, .bool false, undef, .slice ab b.length cb, .int .i64 b.length, .agg #[.int .i64 b.length, .slice none 0 0], .slice ab b.length cb, .func (.func 39) #[] #[.pointer (some ⟨w.heap.size + 3, 0, none⟩)], .int .i64 (x.1 : Int), cutV (.slice ab b.length cb) b.length x.1, undef, undef, undef, undef, undef, undef, undef, undef, undef, undef, undef, undef, undef, undef, undef, undef], defers := [] }) ?assign ?body ?done ?stop
  case hR =>
    intro W W' h1 h2
    refine ⟨?_, HB.out.blocks (fun k hk => ?_)⟩
    · have h3 := h2.2 (w.heap.size + 3) (by omega) (by omega)
      have h4 : W.heap[w.heap.size + 3]? = W4.heap[w.heap.size + 3]? := h1.block _ (by rw [HZ4.out]; omega)
      exact cell_row (j := 0) (h3.trans (h4.trans HB4.out))
    · rw [h2.2 k (by omega) (by omega), h1.block k (by rw [HZ4.out]; omega)]
      exact HG4.out.block k hk (by simp)
  case assign =>
    intro l x W K hK
    obtain ⟨u, hu⟩ : ∃ u, cutV (.slice ab b.length cb) b.length x.1 = u := ⟨_, rfl⟩
    simp only [hu] at hK ⊢
    gi_wp2
    exact hK
  case body =>
    rintro l pre x W ⟨cv, ps, h1, h2, h3, h4, h5, h6, h7⟩ hlen
    have c0 : W.cell? ⟨w.heap.size, 0, none⟩ = some (.slice aa a.length ca) := cell_row h1
    have c2 : W.cell? ⟨w.heap.size + 1 + 1, 0, none⟩ = some (.int .i64 b.length) := cell_row h3
    have c3 : W.cell? ⟨w.heap.size + 1 + 1, 1, none⟩ = some cv := cell_row h3
    obtain ⟨acv, ccv, rfl⟩ := h4.slice
    have hra : Rd W (.slice aa a.length ca) a := HA.out.blocks (fun k hk => h6.block k hk (by simp))
    have hrb : Rd W (.slice ab b.length cb) b := HB.out.blocks (fun k hk => h6.block k hk (by simp))
    have HX : Hid (x.1 < 1000000) := Lib.hid x.2
    have HCUT := Lib.hid (cut_any _ a x.1 W hra (by have := HX.out; omega) (by have := HX.out; omega))
    have hru := cutV_rd hrb x.1
    have HEQ := Lib.hid (equal_any _ _ (pg b x.1) (pg a x.1) W hru (cutV_rd hra x.1))
    have HCL := Lib.hid (fun W' (hg : W.grownBy W' none) => clone_any _ (pg b x.1) W' (hru.grown hg) (by have := pg_len b x.1; have := szN_le b.length x.1; omega))
    obtain ⟨k, hk⟩ : ∃ k, x.1 = k := ⟨_, rfl⟩
    simp only [hk] at HCUT HEQ HCL hru HX ⊢
    obtain ⟨au, cu, hu⟩ := hru.len
    have HI : Hid (DInv w (.slice aa a.length ca) a b pre W) := Lib.hid ⟨_, ps, h1, h2, h3, h4, h5, h6, h7⟩
    have HD : Hid (diffTo a b ((pre ++ [x]).map (·.1)) = diffTo a b (pre.map (·.1)) ++ diffAt a b k) := Lib.hid (by rw [List.map_append, ← diffTo_snoc, List.map_singleton, hk])
    simp only [hu] at HEQ HCL ⊢
    generalize cutV (.slice aa a.length ca) a.length k = ua at *
    have HDA : Hid (diffAt a b k = if pg b k == pg a k then [] else [((k : Int), pg b k)]) := Lib.hid rfl
    have H1 := Lib.hid h1
    have H2 := Lib.hid h2
    have H3 := Lib.hid h3
    have H4 := Lib.hid h4
    have H5 := Lib.hid h5
    have H6 := Lib.hid h6
    have HZI := Lib.hid h7
    have HPL : Hid (ps.length ≤ 1000000) := Lib.hid (by have e1 := congrArg List.length h5; have e2 := diffTo_len a b (pre.map (·.1)); simp only [List.length_map] at e1 e2; omega)
    clear h1 h2 h3 h4 h5 h6 h7 hra hrb hru hu hlen
    cases hq : pg b k == pg a k
    · rw [hq] at HEQ
      rw [hq, if_neg (by simp)] at HDA
      rw [HDA.out] at HD
      clear hq
      have HZW : Hid (w.heap.size + 4 ≤ W.heap.size) := Lib.hid HZI.out
      have HT4 : Hid (∀ w5, W.drew.grownBy w5 none → ∀ o, CLp 57 (w5.alloc o) (w.heap.size + 4) (.slice acv ps.length ccv) ps) := Lib.hid (fun w5 hg o => (H4.out.grown (gb_same (gb_drew W none) hg)).grown (gb_alloc _ _ _))
      have HNE : Hid (∀ v5 w5, Own w5 W.heap.size v5 (pg b k) → ∀ j, (Value.slice acv ps.length ccv).ownBlock = some j → v5.ownBlock ≠ some j) := Lib.hid (fun v5 w5 ho j hj e => by have := (H4.out.1.lt j hj).2; have := (ho.lt j e).1; omega)
      gi_wp2_with (first | (refine ⟨trivial, ?_⟩; gi_at_call 30; refine (CallsIn.inRound l (callsIn_wide.2 HCUT.out)).mono ?_; rintro e w' ⟨rfl, rfl⟩) | (refine ⟨trivial, ?_⟩; gi_at_call 33; refine (CallsIn.inRound l (callsIn_wide.2 HEQ.out)).mono ?_; rintro e w' ⟨rfl, rfl⟩))
      refine region_inRound (by kernel_rfl) l (by kernel_rfl) ?_
      have d3 : W.drew.cell? ⟨w.heap.size + 1 + 1, 1, none⟩ = some (.slice acv ps.length ccv) := c3
      refine wpAnyIn_take (i := 0) (v := ?_) rfl rfl (by kernel_rfl) (by kernel_rfl) (by kernel_rfl) (fun _ _ _ h => h) ⟨Or.inl ⟨by rfl, ?_⟩, fun _ => rfl⟩ ?_
      rotate_left
      · intro w; go_simp; rfl
      refine wpAnyIn_take (i := 2) (v := ?_) rfl rfl (by kernel_rfl) (by kernel_rfl) (by kernel_rfl) (fun _ _ _ h => h) ⟨Or.inl ⟨by rfl, ?_⟩, fun _ => rfl⟩ ?_
      rotate_left
      · intro w; go_simp; rfl
      refine wpAnyIn_take (i := 3) (v := ?_) rfl rfl (by kernel_rfl) (by kernel_rfl) (by kernel_rfl) (fun _ _ _ h => h) ⟨Or.inl ⟨by rfl, ?_⟩, fun _ => rfl⟩ ?_
      rotate_left
      · intro w; go_simp; rfl
      refine wpAnyIn_ready (rs := [1, 4]) (by kernel_rfl) (by simp) ?_
      refine AllReadyIn.cons rfl (fun K hK => ?_) (AllReadyIn.cons rfl (fun K hK => ?_) AllReadyIn.nil)
      · go_simp
        refine hK _ _ ?_; clear hK K
        refine wpAnyIn_ready (rs := [4]) (by kernel_rfl) (by simp) (AllReadyIn.cons rfl (fun K hK => ?_) AllReadyIn.nil)
        go_simp
        refine ⟨trivial, ?_⟩
        refine (callsIn_wide.2 (HCL.out _ (gb_drew _ _))).mono ?_
        rintro e w5 ⟨v5, rfl, ho5, hg5⟩; obtain ⟨a5, c5, rfl⟩ := ho5.rd.len
        have HO5 := Lib.hid ho5
        have HG5 := Lib.hid hg5
        have e3 := hg5.cell d3 (by simp)
        clear ho5 hg5
        refine hK _ _ ?_; clear hK K
        refine wpAnyIn_take (i := 5) (v := ?_) rfl rfl (by kernel_rfl) (by kernel_rfl) (by kernel_rfl) (fun _ _ _ h => h) ⟨Or.inl ⟨by rfl, ?_⟩, fun _ => rfl⟩ ?_
        rotate_left
        · intro w; go_simp; rfl
        refine wpAnyIn_ready (rs := [6]) (by kernel_rfl) (by simp) (AllReadyIn.cons rfl (fun K hK => ?_) AllReadyIn.nil)
        go_simp
        refine hK _ _ ?_; clear hK K
        refine wpAnyIn_ready (rs := [7]) (by kernel_rfl) (by simp) (AllReadyIn.cons rfl (fun K hK => ?_) AllReadyIn.nil)
        refine app_chg_op _ _ rfl (w.heap.size + 4) (.slice acv ps.length ccv) ps ((k : Int), pg b k) _ w5.heap.size _ rfl rfl (HT4.out w5 HG5.out _) (HO5.out.grown (gb_alloc _ _ none) |>.mono HZW.out) (HNE.out _ w5 HO5.out) (heap_at_alloc _ _) HPL.out (by have := HZW.out; have := HG5.out.size; simp at this ⊢; omega) ?_
        intro v7 w7 h7 hg7 hf7; obtain ⟨a7, c7, rfl⟩ := h7.slice; rw [List.length_append, List.length_singleton] at h7
        refine hK _ _ ?_; clear hK K
        refine wpAnyIn_take (i := 8) (v := ?_) rfl rfl (by kernel_rfl) (by kernel_rfl) (by kernel_rfl) (fun _ _ _ h => h) ⟨Or.inl ⟨by rfl, ?_⟩, fun _ => rfl⟩ ?_
        rotate_left
        · intro w; go_simp; rfl
        refine wpAnyIn_ready (rs := [9]) (by kernel_rfl) (by simp) (AllReadyIn.cons rfl (fun K hK => ?_) AllReadyIn.nil)
        have HP7 := Lib.hid (blk_kept' (blk_kept (blk_kept (show W.drew.heap[w.heap.size + 1 + 1]? = _ from H3.out) HG5.out) (gb_alloc _ _ none)) hg7 (fun e => by have := (H4.out.1.lt _ e).1; omega)); have f3 : w7.cell? ⟨w.heap.size + 1 + 1, 1, none⟩ = some (.slice acv ps.length ccv) := cell_row HP7.out; have f4 : w7.frozen? ⟨w.heap.size + 1 + 1, 1, none⟩ = false := frozen_row HP7.out
        go_simp
        refine hK _ _ ?_; clear hK K
        refine wpAnyIn_done (by kernel_rfl) ?_ _
        exact diff_fin _ H1.out H2.out H3.out H4.out H5.out H6.out HD.out HZW.out HG5.out h7 hg7
      · go_simp
        refine ⟨trivial, ?_⟩
        refine (callsIn_wide.2 (HCL.out _ (gb_drew _ _))).mono ?_
        rintro e w5 ⟨v5, rfl, ho5, hg5⟩; obtain ⟨a5, c5, rfl⟩ := ho5.rd.len
        have HO5 := Lib.hid ho5
        have HG5 := Lib.hid hg5
        have e3 := hg5.cell d3 (by simp)
        clear ho5 hg5
        refine hK _ _ ?_; clear hK K
        refine wpAnyIn_take (i := 5) (v := ?_) rfl rfl (by kernel_rfl) (by kernel_rfl) (by kernel_rfl) (fun _ _ _ h => h) ⟨Or.inl ⟨by rfl, ?_⟩, fun _ => rfl⟩ ?_
        rotate_left
        · intro w; go_simp; rfl
        refine wpAnyIn_ready (rs := [1, 6]) (by kernel_rfl) (by simp) ?_
        refine AllReadyIn.cons rfl (fun K hK => ?_) (AllReadyIn.cons rfl (fun K hK => ?_) AllReadyIn.nil)
        · go_simp
          refine hK _ _ ?_; clear hK K
          refine wpAnyIn_ready (rs := [6]) (by kernel_rfl) (by simp) (AllReadyIn.cons rfl (fun K hK => ?_) AllReadyIn.nil)
          go_simp
          refine hK _ _ ?_; clear hK K
          refine wpAnyIn_ready (rs := [7]) (by kernel_rfl) (by simp) (AllReadyIn.cons rfl (fun K hK => ?_) AllReadyIn.nil)
          refine app_chg_op _ _ rfl (w.heap.size + 4) (.slice acv ps.length ccv) ps ((k : Int), pg b k) _ w5.heap.size _ rfl rfl (HT4.out w5 HG5.out _) (HO5.out.grown (gb_alloc _ _ none) |>.mono HZW.out) (HNE.out _ w5 HO5.out) (heap_at_alloc _ _) HPL.out (by have := HZW.out; have := HG5.out.size; simp at this ⊢; omega) ?_
          intro v7 w7 h7 hg7 hf7; obtain ⟨a7, c7, rfl⟩ := h7.slice; rw [List.length_append, List.length_singleton] at h7
          refine hK _ _ ?_; clear hK K
          refine wpAnyIn_take (i := 8) (v := ?_) rfl rfl (by kernel_rfl) (by kernel_rfl) (by kernel_rfl) (fun _ _ _ h => h) ⟨Or.inl ⟨by rfl, ?_⟩, fun _ => rfl⟩ ?_
          rotate_left
          · intro w; go_simp; rfl
          refine wpAnyIn_ready (rs := [9]) (by kernel_rfl) (by simp) (AllReadyIn.cons rfl (fun K hK => ?_) AllReadyIn.nil)
          have HP7 := Lib.hid (blk_kept' (blk_kept (blk_kept (show W.drew.heap[w.heap.size + 1 + 1]? = _ from H3.out) HG5.out) (gb_alloc _ _ none)) hg7 (fun e => by have := (H4.out.1.lt _ e).1; omega)); have f3 : w7.cell? ⟨w.heap.size + 1 + 1, 1, none⟩ = some (.slice acv ps.length ccv) := cell_row HP7.out; have f4 : w7.frozen? ⟨w.heap.size + 1 + 1, 1, none⟩ = false := frozen_row HP7.out
          go_simp
          refine hK _ _ ?_; clear hK K
          refine wpAnyIn_done (by kernel_rfl) ?_ _
          exact diff_fin _ H1.out H2.out H3.out H4.out H5.out H6.out HD.out HZW.out HG5.out h7 hg7
        · go_simp
          refine hK _ _ ?_; clear hK K
          have e4 : (w5.alloc (Obj.cells #[.int .i64 k, .slice a5 (pg b k).length c5] 57)).cell? ⟨w.heap.size + 1 + 1, 1, none⟩ = some (.slice acv ps.length ccv) := (gb_alloc _ _ none).cell e3 (by simp)
          refine wpAnyIn_ready (rs := [1]) (by kernel_rfl) (by simp) (AllReadyIn.cons rfl (fun K hK => ?_) AllReadyIn.nil)
          go_simp
          refine hK _ _ ?_; clear hK K
          refine wpAnyIn_ready (rs := [7]) (by kernel_rfl) (by simp) (AllReadyIn.cons rfl (fun K hK => ?_) AllReadyIn.nil)
          refine app_chg_op _ _ rfl (w.heap.size + 4) (.slice acv ps.length ccv) ps ((k : Int), pg b k) _ w5.heap.size _ rfl rfl (HT4.out w5 HG5.out _) (HO5.out.grown (gb_alloc _ _ none) |>.mono HZW.out) (HNE.out _ w5 HO5.out) (heap_at_alloc _ _) HPL.out (by have := HZW.out; have := HG5.out.size; simp at this ⊢; omega) ?_
          intro v7 w7 h7 hg7 hf7; obtain ⟨a7, c7, rfl⟩ := h7.slice; rw [List.length_append, List.length_singleton] at h7
          refine hK _ _ ?_; clear hK K
          refine wpAnyIn_take (i := 8) (v := ?_) rfl rfl (by kernel_rfl) (by kernel_rfl) (by kernel_rfl) (fun _ _ _ h => h) ⟨Or.inl ⟨by rfl, ?_⟩, fun _ => rfl⟩ ?_
          rotate_left
          · intro w; go_simp; rfl
          refine wpAnyIn_ready (rs := [9]) (by kernel_rfl) (by simp) (AllReadyIn.cons rfl (fun K hK => ?_) AllReadyIn.nil)
          have HP7 := Lib.hid (blk_kept' (blk_kept (blk_kept (show W.drew.heap[w.heap.size + 1 + 1]? = _ from H3.out) HG5.out) (gb_alloc _ _ none)) hg7 (fun e => by have := (H4.out.1.lt _ e).1; omega)); have f3 : w7.cell? ⟨w.heap.size + 1 + 1, 1, none⟩ = some (.slice acv ps.length ccv) := cell_row HP7.out; have f4 : w7.frozen? ⟨w.heap.size + 1 + 1, 1, none⟩ = false := frozen_row HP7.out
          go_simp
          refine hK _ _ ?_; clear hK K
          refine wpAnyIn_done (by kernel_rfl) ?_ _
          exact diff_fin _ H1.out H2.out H3.out H4.out H5.out H6.out HD.out HZW.out HG5.out h7 hg7
    · rw [hq] at HEQ HDA
      clear hq
      gi_wp2_with (first | (refine ⟨trivial, ?_⟩; gi_at_call 30; refine (CallsIn.inRound l (callsIn_wide.2 HCUT.out)).mono ?_; rintro e w' ⟨rfl, rfl⟩) | (refine ⟨trivial, ?_⟩; gi_at_call 33; refine (CallsIn.inRound l (callsIn_wide.2 HEQ.out)).mono ?_; rintro e w' ⟨rfl, rfl⟩))
      refine ⟨KeepsFrom.refl _ _, DKp.refl _ _ _, _, ps, H1.out, H2.out, H3.out, H4.out, ?_, H6.out, HZI.out⟩
      rw [HD.out, HDA.out, H5.out]
      simp
  case done =>
    rintro D ys W hD hys ⟨cv, ps, h1, h2, h3, h4, h5, h6, h7⟩ hK
    have c2 : W.cell? ⟨w.heap.size + 1 + 1, 0, none⟩ = some (.int .i64 b.length) := cell_row h3
    have c3 : W.cell? ⟨w.heap.size + 1 + 1, 1, none⟩ = some cv := cell_row h3
    have r0 : W.cell? ⟨w.heap.size + 1, 0, none⟩ = some (.int .i64 0) := cell_row h2
    have r1 : W.cell? ⟨w.heap.size + 1, 1, none⟩ = some (.slice none 0 0) := cell_row h2
    have r2 : W.frozen? ⟨w.heap.size + 1, 0, none⟩ = false := frozen_row h2
    have r3 : W.frozen? ⟨w.heap.size + 1, 1, none⟩ = false := frozen_row h2
    obtain ⟨acv, ccv, rfl⟩ := h4.slice
    have H4 := Lib.hid h4
    have H5 := Lib.hid h5
    have H6 := Lib.hid h6
    have HYS := Lib.hid hys
    have HK := Lib.hid hK
    have H1 := Lib.hid h1
    have H2 := Lib.hid h2
    have H3 := Lib.hid h3
    clear h1 h2 h3 h4 h5 h6 h7 hys hK
    gi_wp2
    have HDn : D ≠ w.heap.size + 1 := fun e => by have h1 := HK.out; have h2 := H2.out; rw [e, h2] at h1; cases h1
    have hK2 : ((W.setCell ⟨w.heap.size + 1, 0, none⟩ (.int .i64 b.length)).setCell ⟨w.heap.size + 1, 1, none⟩ (.slice acv ps.length ccv)).heap[D]? = some (.deferred (some [])) := by
      rw [heap_setCell_other _ _ _ _ (by simpa using HDn), heap_setCell_other _ _ _ _ (by simpa using HDn)]; exact HK.out
    refine ⟨by simp, .inl ⟨_, _, rfl, run_takeDeferred hK2, ?_⟩⟩
    have HDn2 : D ≠ w.heap.size + 1 + 1 := fun e => by have h1 := HK.out; have h2 := H3.out; rw [e, h2] at h1; cases h1
    have q1 := heap_setCell_same _ _ 0 _ _ (.int .i64 b.length) H2.out
    have q2 := heap_setCell_same _ _ 1 _ _ (.slice acv ps.length ccv) q1
    have gA := gb_setCell W ⟨w.heap.size + 1, 0, none⟩ (.int .i64 b.length)
    have gB := gb_setCell (W.setCell ⟨w.heap.size + 1, 0, none⟩ (.int .i64 b.length)) ⟨w.heap.size + 1, 1, none⟩ (.slice acv ps.length ccv)
    have gAB := gb_same gA gB
    have hc2 := H4.out.kept gAB (fun k hk => .inl (by cases hk; simp))
    obtain ⟨X, hX⟩ : ∃ X, (W.setCell ⟨w.heap.size + 1, 0, none⟩ (.int .i64 b.length)).setCell ⟨w.heap.size + 1, 1, none⟩ (.slice acv ps.length ccv) = X := ⟨_, rfl⟩
    rw [hX] at q2 gAB hc2 hK2 ⊢
    have gP := grownBy_putObj' X D (.deferred none)
    have q3 : (X.putObj D (.deferred none)).heap[w.heap.size + 1]? = some (.cells #[.int .i64 b.length, .slice acv ps.length ccv] 29 (0, 0)) := blk_kept' q2 gP (fun e => HDn (Option.some.inj e))
    have hc3 := hc2.abide gP (fun r e => by cases e; exact ⟨_, hK2, rfl⟩)
    have g9 : w.grownBy (X.putObj D (.deferred none)) none := gb_trans (gb_trans H6.out gAB (fun k hk => .inr (by cases hk; simp))) gP (fun k hk => .inr (by cases hk; have := HZ4.out; omega))
    generalize X.putObj D (.deferred none) = Y at *
    have y0 : Y.cell? ⟨w.heap.size + 1, 0, none⟩ = some (.int .i64 b.length) := cell_row q3
    have y1 : Y.cell? ⟨w.heap.size + 1, 1, none⟩ = some (.slice acv ps.length ccv) := cell_row q3
    refine ⟨.tuple #[.agg #[.int .i64 b.length, .slice acv ps.length ccv], .int .i64 0], ?_, ?_⟩
    · simp [results, Try.results16, go_sem, y0, y1]
    · refine ⟨_, ps, rfl, ?_, hc3.mono (by omega), g9⟩
      rw [H5.out, HYS.out]
      unfold diffL
      rw [HN.out]
      rfl
  case stop =>
    rintro D c pre W _ _ h _
    exact h.elim
end Go.Proofs.Ytnkgoaloigmmfaa
