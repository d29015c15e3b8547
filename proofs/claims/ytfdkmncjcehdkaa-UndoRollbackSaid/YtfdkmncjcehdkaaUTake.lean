/-
  undo.takeBack: the walk.
-/
import Derived.Test.YtfdkmncjcehdkaaUPut
namespace Go.Proofs.Ytfdkmncjcehdkaa
open Go.RowKit Go.Shelf

attribute [local go_sem] Oper.semAt_some

def TKp (n P : Nat) (v0 : Value) (W W' : World) : Prop := W.heap.size ≤ W'.heap.size ∧ ∀ k, k < n → k ≠ P → v0.ownBlock ≠ some k → W'.heap[k]? = W.heap[k]?
theorem TKp.refl (n P : Nat) (v0 : Value) (W : World) : TKp n P v0 W W := ⟨Nat.le_refl _, fun _ _ _ _ => rfl⟩
theorem TKp.trans {n P : Nat} {v0 : Value} {A B C : World} (h : TKp n P v0 A B) (k : TKp n P v0 B C) : TKp n P v0 A C := ⟨Nat.le_trans h.1 k.1, fun i h1 h2 h3 => (k.2 i h1 h2 h3).trans (h.2 i h1 h2 h3)⟩
theorem TKp.put {n P l : Nat} {v0 : Value} {W : World} {o' : Obj} (h : n ≤ l) : TKp n P v0 W (W.putObj l o') := ⟨by simp, fun k h1 _ _ => World.putObj_heap_other (by omega)⟩

theorem noncell_ne {w : World} {base size n : Nat} {e : TypeId} {v : Value} {xs : List Value} (h : w.ownsRow base e size v n xs) {row : Option Nat} (hr : ∀ r, row = some r → ∃ o : Obj, w.heap[r]? = some o ∧ o.isCells = false) :
    ∀ k, v.ownBlock = some k → row ≠ some k := by
  intro k hk e
  obtain ⟨o, ho, hc⟩ := hr k e
  obtain ⟨_, h2⟩ := h
  rcases h2 with ⟨rfl, _⟩ | ⟨g, cap, cur, rfl, _, hg, _⟩
  · simp [Value.ownBlock] at hk
  · simp only [Value.ownBlock, Option.some.injEq] at hk
    subst hk
    rw [hg] at ho
    cases ho
    cases hc
theorem Own.blkType {w : World} {B : Nat} {v : Value} {l : List UInt8} (h : Own w B v l) {k : Nat} (hk : v.ownBlock = some k) {cs : Array Value} {t : TypeId} {fz : Nat × Nat} (hb : w.heap[k]? = some (.cells cs t fz)) : t = 5 := by
  rcases h.2 with ⟨rfl, _⟩ | ⟨g, cap, cur, rfl, _, hg, _⟩
  · simp [Value.ownBlock] at hk
  · simp only [Value.ownBlock, Option.some.injEq] at hk
    subst hk
    rw [hg] at hb
    cases hb
    rfl

/-- the records of some rounds -/
def recsOf (ps : List RP) {N : Nat} (ys : List (RdNo N)) : List RT := (ys.map (·.1)).filterMap fun x => (ps.reverse[x]?).map (·.1)
theorem recsOf_snoc {ps : List RP} {N : Nat} (ys : List (RdNo N)) {x : RdNo N} {p : RP} (h : ps.reverse[x.1]? = some p) : recsOf ps (ys ++ [x]) = recsOf ps ys ++ [p.1] := by
  unfold recsOf
  rw [List.map_append, List.filterMap_append]
  congr 1
  simp [h]
theorem recsOf_all {ps : List RP} {N : Nat} {ys : List (RdNo N)} (hN : N = ps.length) (h : ys.map (·.1) = List.range N) : recsOf ps ys = (ps.map (·.1)).reverse := by
  unfold recsOf
  rw [h, hN]
  have key : ∀ (L : List RP) (n : Nat), n ≤ L.length → (List.range n).filterMap (fun x => (L[x]?).map (·.1)) = (L.take n).map (·.1) := by
    intro L n
    induction n with
    | zero => intro _; rfl
    | succ n ih =>
      intro hn
      rw [List.range_succ, List.filterMap_append, ih (by omega), List.take_add_one, List.map_append]
      congr 1
      have : L[n]? = some L[n] := by simp
      rw [this]
      simp [this]
  have := key ps.reverse ps.length (by simp)
  rw [this, List.take_of_length_le (by simp), List.map_reverse]
/-- what the loop of takeBack keeps -/
def TInv (w : World) (v0 lv : Value) (l : List UInt8) (ps : List RP) {N : Nat} (ys : List (RdNo N)) (W : World) : Prop :=
  ∃ v, W.heap[w.heap.size]? = some (.cells #[v] 22 (0, 0)) ∧ Own W 0 v (takeAll l (recsOf ps ys)) ∧ Fr w v0 v ∧ w.grownBy W v0.ownBlock ∧ w.heap.size + 2 ≤ W.heap.size ∧ W.heap[w.heap.size + 1]? = some (.cells #[lv] 42 (0, 0))
theorem TInv.own (w : World) (v0 lv : Value) (l : List UInt8) (ps : List RP) (N B : Nat) (hB : w.heap.size ≤ B) : OwnFrom B (TInv w v0 lv l ps (N := N)) := by
  rintro ys W W' row ⟨v, h1, h2, h3, h4, h5, h6⟩ hg hr
  have hr' : ∀ r, row = some r → ∃ o : Obj, W.heap[r]? = some o ∧ o.isCells = false := fun r e => (hr r e).2
  exact ⟨v, (grownBy_keeps_cells hg hr' h1 rfl).trans h1, h2.kept hg (noncell_ne h2 hr'), h3, gb_trans h4 hg (fun k e => .inr (by have := (hr k e).1; omega)), Nat.le_trans h5 hg.size, (grownBy_keeps_cells hg hr' h6 rfl).trans h6⟩
theorem TInv.grown {w : World} {v0 lv : Value} {l : List UInt8} {ps : List RP} {N : Nat} {ys : List (RdNo N)} {W W' : World} (h : TInv w v0 lv l ps ys W) (hg : W.grownBy W' none) : TInv w v0 lv l ps ys W' := by
  obtain ⟨v, h1, h2, h3, h4, h5, h6⟩ := h
  exact ⟨v, blk_kept h1 hg, h2.grown hg, h3, gb_trans0 h4 hg, Nat.le_trans h5 hg.size, blk_kept h6 hg⟩
/-- what a round begins with -/
def TAx (w : World) (v0 lv : Value) (ps : List RP) {N : Nat} (x : RdNo N) (a : Act) (W : World) : Prop :=
  ∃ g i, ∃ p : RP, ps.reverse[x.1]? = some p ∧ W.heap[g]? = some (.cells #[.int .i64 p.1.1, .int .i64 p.1.2.1, p.2] 65 (0, 0)) ∧ w.heap.size + 2 ≤ g ∧
    a = { tmps := #[v0, lv, .pointer (some ⟨w.heap.size, 0, none⟩), undef, .slice none 0 0, undef, .pointer (some ⟨g, 0, none⟩), lv, .func (.func 72) #[] #[.pointer (some ⟨w.heap.size + 1, 0, none⟩)], .int .i64 i, .agg #[.int .i64 p.1.1, .int .i64 p.1.2.1, p.2], undef, undef, undef, undef, undef, undef, undef, undef, undef, undef, undef, undef], defers := [] }
theorem TAx.own (w : World) (v0 lv : Value) (ps : List RP) {N : Nat} (x : RdNo N) (a : Act) (B : Nat) : OwnFrom B (fun (_ : Unit) W => TAx w v0 lv ps x a W) := by
  rintro ys W W' row ⟨g, i, p, h1, h2, h3, h4⟩ hg hr
  have hr' : ∀ r, row = some r → ∃ o : Obj, W.heap[r]? = some o ∧ o.isCells = false := fun r e => (hr r e).2
  exact ⟨g, i, p, h1, (grownBy_keeps_cells hg hr' h2 rfl).trans h2, h3, h4⟩
theorem takeAll_snoc (l : List UInt8) (rs : List RT) (r : RT) : takeAll l (rs ++ [r]) = takeR (takeAll l rs) r := by
  unfold takeAll
  rw [List.foldl_append]
  rfl
theorem tb_fin {w W w1 W3 : World} {v0 lv v v1 : Value} {l cur : List UInt8} {ps : List RP} {N : Nat} {pre : List (RdNo N)} {x : RdNo N} {r : RT} {B : Nat} (hlen : w.heap.size + 2 ≤ W.heap.size)
    (h1 : W.heap[w.heap.size]? = some (.cells #[v] 22 (0, 0))) (h2 : Own W 0 v cur) (h3 : Fr w v0 v) (h4 : w.grownBy W v0.ownBlock) (h6 : W.heap[w.heap.size + 1]? = some (.cells #[lv] 42 (0, 0))) (hB : w.heap.size + 2 ≤ B)
    (hg1 : W.grownBy w1 v.ownBlock) (hf1 : Fr W v v1)
    (ho3 : Own W3 0 v1 (takeR cur r)) (hg3 : (w1.setCell ⟨w.heap.size, 0, none⟩ v1).drew.grownBy W3 v1.ownBlock)
    (hT : takeAll l (recsOf ps (pre ++ [x])) = takeR cur r) :
    KeepsFrom B W W3 ∧ TKp (w.heap.size + 2) w.heap.size v0 W W3 ∧ TInv w v0 lv l ps (pre ++ [x]) W3 := by
  have hsz1 := hg1.size
  have hszx : (w1.setCell ⟨w.heap.size, 0, none⟩ v1).drew.heap.size = w1.heap.size := by simp
  have hsz3 := hg3.size
  have hvb : v.ownBlock ≠ some w.heap.size := fun e => by have := h2.blkType e h1; cases this
  have hv1W : ∀ k, v1.ownBlock = some k → v.ownBlock = some k ∨ W.heap.size ≤ k := hf1
  have hv1b : v1.ownBlock ≠ some w.heap.size := fun e => by
    rcases hf1 _ e with h | h
    · exact hvb h
    · omega
  have keep : ∀ k, k < W.heap.size → v.ownBlock ≠ some k → k ≠ w.heap.size → W3.heap[k]? = W.heap[k]? := fun k hk hne hne2 => by
    rw [hg3.block k (by omega) (fun e => by rcases hf1 k e.symm with h | h; exact hne h; omega)]
    show (w1.setCell ⟨w.heap.size, 0, none⟩ v1).heap[k]? = _
    rw [heap_setCell_other _ _ _ _ (by simpa using hne2), hg1.block k hk (fun e => hne e.symm)]
  refine ⟨⟨by omega, fun k o hk hko ho => ?_⟩, ⟨by omega, fun k hk hne hnv => ?_⟩, v1, ?_, ?_, ?_, ?_, by omega, ?_⟩
  · rw [keep k (Array.getElem?_eq_some_iff.1 hko).1 ?_ (by omega)]
    · exact hko
    · exact fun e => noncell_ne h2 (row := some k) (fun r e => by cases e; exact ⟨o, hko, ho⟩) k e rfl
  · refine keep k (by omega) (fun e => ?_) hne
    rcases h3 k e with h | h
    · exact hnv h
    · have h7 : k = w.heap.size ∨ k = w.heap.size + 1 := by omega
      rcases h7 with rfl | rfl
      · exact hne rfl
      · have := h2.blkType e h6; cases this
  · rw [hg3.block _ (by omega) (fun e => hv1b e.symm)]
    show (w1.setCell ⟨w.heap.size, 0, none⟩ v1).heap[w.heap.size]? = _
    have h8 : w1.heap[w.heap.size]? = some (.cells #[v] 22 (0, 0)) := by rw [hg1.block _ (by omega) (fun e => hvb e.symm)]; exact h1
    exact heap_setCell_same _ _ 0 _ _ v1 h8
  · rw [hT]; exact ho3
  · exact h3.trans h4.size hf1
  · refine ⟨hg3.os.trans (hg1.os.trans h4.os), hg3.tape.trans (hg1.tape.trans h4.tape), hg3.output.trans (hg1.output.trans h4.output), by omega, fun k hk hne => ?_⟩
    rw [keep k (by omega) (fun e => ?_) (by omega), h4.block k hk hne]
    rcases h3 k e with h | h
    · exact hne h.symm
    · omega
  · rw [keep _ (by omega) (fun e => by have := h2.blkType e h6; cases this) (by omega)]; exact h6
set_option maxRecDepth 100000 in
set_option maxHeartbeats 4000000 in
theorem takeBack_any (v0 lv : Value) (l : List UInt8) (ps : List RP) (w : World) (hv : Own w 0 v0 l) (hl : RdRs w lv ps) (hok : ∀ p ∈ ps, okR p.1 = true) (hn : ps.length ≤ 1000000)
    (hd1 : ps ≠ [] → ∀ k, lv.ownBlock = some k → v0.ownBlock ≠ some k) (hd2 : ∀ p ∈ ps, p.1.2.2 ≠ [] → ∀ k, p.2.ownBlock = some k → v0.ownBlock ≠ some k) :
    Calls Try.prog 37 #[v0, lv] w (ResP w 0 v0 (recL l (ps.map (·.1)))) := by
  have HV := Lib.hid hv
  have HL := Lib.hid hl
  have HOK := Lib.hid hok
  have HD1 := Lib.hid hd1
  have HD2 := Lib.hid hd2
  obtain ⟨a0, c0, rfl⟩ := hv.rd.len
  obtain ⟨al, cl, rfl⟩ := hl.1.len
  clear hv hl hok hd1 hd2
  refine (callsIn_wide (n := 5)).1 ?_
  refine callsIn_of_wp_marks Try.func37 rfl trivial ?_ rfl
  simp only [Try.ntmps37, List.size_toArray, List.length_cons, List.length_nil, Nat.reduceAdd, Nat.reduceSub, Array.replicate_succ, Array.replicate_zero, List.push_toArray, List.append_toArray, List.nil_append, List.cons_append]
  obtain ⟨W3, hW3⟩ : ∃ W3, w.alloc (Obj.cells #[Value.slice a0 l.length c0] 22) = W3 := ⟨_, rfl⟩
  have hg3 : w.grownBy W3 none := by rw [← hW3]; exact gb_alloc _ _ _
  have hz3 : W3.heap.size = w.heap.size + 1 := by rw [← hW3]; simp
  have k0 : W3.heap[w.heap.size]? = some (.cells #[.slice a0 l.length c0] 22 (0, 0)) := by rw [← hW3]; exact heap_at_alloc _ _
  have HW3 := Lib.hid hW3
  have HG3 := Lib.hid hg3
  have HZ3 := Lib.hid hz3
  have K0 := Lib.hid k0
  clear hW3 hg3 hz3 k0
  gi_wp2_with (refine ⟨trivial, ?_⟩; gi_at_call 60; rw [HW3.out]; refine (callsIn_wide.2 (backward_any _ ps _ (HL.out.grown HG3.out).1)).mono ?_; rintro e w' ⟨rfl, rfl⟩)
  have hb4 := heap_at_alloc W3 (Obj.cells #[Value.slice al ps.length cl] 42)
  rw [HZ3.out] at hb4
  rw [show W3.heap.size = w.heap.size + 1 from HZ3.out]
  obtain ⟨W4, hW4⟩ : ∃ W4, W3.alloc (Obj.cells #[Value.slice al ps.length cl] 42) = W4 := ⟨_, rfl⟩
  rw [hW4] at hb4 ⊢
  have hz4 : W4.heap.size = w.heap.size + 2 := by rw [← hW4]; simp [HZ3.out]
  have hg4 : w.grownBy W4 none := by rw [← hW4]; exact gb_same HG3.out (gb_alloc _ _ _)
  have j0 : W4.heap[w.heap.size]? = some (.cells #[.slice a0 l.length c0] 22 (0, 0)) := by rw [← hW4]; exact blk_kept K0.out (gb_alloc _ _ _)
  have H0 : Hid (TInv w (.slice a0 l.length c0) (.slice al ps.length cl) l ps (N := ps.length) [] W4) := Lib.hid ⟨_, j0, HV.out.grown hg4, Fr.refl _ _, gb_none _ hg4, by omega, hb4⟩
  have HZ4 := Lib.hid hz4
  have HB4 := Lib.hid hb4
  have HG4 := Lib.hid hg4
  clear hW4 j0 hz4 hb4 hg4 K0 HW3 HG3 HZ3
  refine wpIn_rangeFunc_ownH rfl (by omega) (gf := 72) (lb := #[.pointer (some ⟨w.heap.size + 1, 0, none⟩)]) rfl trivial (enters_of Try.func72 (by kernel_rfl) rfl)
    (back_stops 4 (by omega) (w.heap.size + 1) (.slice al ps.length cl) ps ps.length W4 rfl hn (TKp (w.heap.size + 2) w.heap.size (.slice a0 l.length c0)) (TKp.refl _ _ _) (fun h k => h.trans k) ?hR)
    (fun h k => h.trans k) (fun W l o o' hl _ _ _ => TKp.put (by rw [HZ4.out] at hl; exact hl)) (Below.refl _ _) (fun _ => rfl) (TInv w (.slice a0 l.length c0) (.slice al ps.length cl) l ps) (fun _ _ _ => False) (TInv.own w _ _ l ps _ _ (by rw [HZ4.out]; omega)) (fun _ _ _ _ _ hs _ _ => hs) H0.out
    (TAx w (.slice a0 l.length c0) (.slice al ps.length cl) ps) (fun x a' => TAx.own _ _ _ _ _ _ _) ?assign ?body ?done ?stop
  case hR =>
    intro W W' h1 h2
    have hblk : ∀ k, k < w.heap.size + 2 → k ≠ w.heap.size → (Value.slice a0 l.length c0).ownBlock ≠ some k → W'.heap[k]? = W4.heap[k]? := fun k hk hne hnv => by
      rw [h2.2 k hk hne hnv, h1.block k (by rw [HZ4.out]; exact hk)]
    refine ⟨cell_row (j := 0) ((hblk (w.heap.size + 1) (by omega) (by omega) (fun e => by have := (HV.out.lt _ e).2; omega)).trans HB4.out), ?_⟩
    rcases HL.out.1 with h3 | ⟨b, off, cap, e, h3, h4, h5⟩
    · exact .inl h3
    · refine .inr ⟨b, off, cap, e, h3, h4, fun j c hj => ?_⟩
      have h6 := h5 j c hj
      have h7 : b < w.heap.size := World.block_lt_of_cell? _ _ h6
      have hne : ps ≠ [] := by rintro rfl; simp [cellsR] at hj
      unfold World.cell? at h6 ⊢
      rw [hblk b (by omega) (by omega) (fun ev => HD1.out hne b (by rw [e]; rfl) ev), HG4.out.block b h7 (by simp)]
      exact h6
  case assign =>
    rintro l' pre ⟨x, hx⟩ W K ⟨v, h1, h2, h3, h4, h5, h6⟩ hK
    obtain ⟨m, hm⟩ : ∃ m, ps.length = x + 1 + m := ⟨ps.length - x - 1, by omega⟩
    obtain ⟨p, hp⟩ : ∃ p, ps[m]? = some p := ⟨ps[m], by simp⟩
    have hr := recV_at hm hp
    have hrv : ps.reverse[x]? = some p := by rw [List.getElem?_reverse (by omega), show ps.length - 1 - x = m by omega, hp]
    have HK := Lib.hid hK
    have HT : Hid (TInv w (.slice a0 l.length c0) (.slice al ps.length cl) l ps pre W) := Lib.hid ⟨v, h1, h2, h3, h4, h5, h6⟩
    have HRV := Lib.hid hrv
    have HB5 : Hid (w.heap.size + 2 ≤ W.heap.size) := Lib.hid h5
    clear hm hp hrv hK h1 h2 h3 h4 h5 h6
    simp only [hr] at *
    obtain ⟨ad, cd, hpd⟩ := (HL.out.2 p (by have := List.mem_of_getElem? HRV.out; simpa using this)).len
    clear hr
    rw [hpd]
    have HPD := Lib.hid hpd
    clear hpd
    gi_wp2_with fail
    refine HK.out _ _ (KeepsFrom.of_grownBy (gb_alloc _ _ none) (by simp)) ⟨by simp, fun k hk _ _ => (gb_alloc W _ none).block k (by have := HB5.out; omega) (by simp)⟩ (HT.out.grown (gb_alloc _ _ _)) ⟨W.heap.size, (ps.length : Int) - 1 - x, p, HRV.out, ?_, HB5.out, ?_⟩
    · rw [HPD.out]; exact heap_at_alloc _ _
    · rw [HPD.out]
  case body =>
    rintro l' pre x a' W hl' hloop ⟨v, h1, h2, h3, h4, h5, h6⟩ ⟨g, i, p, q1, q2, q3, rfl⟩ hlen
    have hpm : p ∈ ps := by have := List.mem_of_getElem? q1; simpa using this
    obtain ⟨⟨o, L, od⟩, dv⟩ := p
    obtain ⟨hL0, hL1, ho0, ho1⟩ := okR_spec (HOK.out _ hpm)
    have hrd : RdW W dv od := (HL.out.2 _ hpm).kept h4 (fun hne k hk e => HD2.out _ hpm hne k hk e)
    obtain ⟨ad, cd, rfl⟩ := hrd.len
    have HDN : Hid (od ≠ [] → ∀ k, (Value.slice ad od.length cd).ownBlock = some k → k < w.heap.size ∧ (Value.slice a0 l.length c0).ownBlock ≠ some k) := Lib.hid (fun hne k hk => ⟨(HL.out.2 _ hpm).blk hne k hk, HD2.out _ hpm hne k hk⟩)
    simp only at hL0 hL1 ho0 ho1 q2
    obtain ⟨L, rfl⟩ := Int.eq_ofNat_of_zero_le hL0
    obtain ⟨o, rfl⟩ := Int.eq_ofNat_of_zero_le ho0
    rw [Int.toNat_natCast] at hL1 ho1
    rw [Int.toNat_natCast] at ho1
    have HT : Hid (takeAll l (recsOf ps (pre ++ [x])) = takeR (takeAll l (recsOf ps pre)) ((o : Int), (L : Int), od)) := Lib.hid (by rw [recsOf_snoc pre q1, takeAll_snoc])
    obtain ⟨cur, hcur⟩ : ∃ cur, takeAll l (recsOf ps pre) = cur := ⟨_, rfl⟩
    rw [hcur] at HT h2
    obtain ⟨av, cv, rfl⟩ := h2.rd.len
    have HRES := Lib.hid (resized_any _ cur L 0 W h2 (Nat.zero_le _) hL1)
    have c0 : W.cell? ⟨w.heap.size, 0, none⟩ = some (.slice av cur.length cv) := cell_row h1
    have c1 : W.cell? ⟨g, 1, none⟩ = some (.int .i64 L) := cell_row q2
    have H1 := Lib.hid h1
    have H2 := Lib.hid h2
    have H3 := Lib.hid h3
    have H4 := Lib.hid h4
    have H5 : Hid (w.heap.size + 2 ≤ W.heap.size) := Lib.hid h5
    have H6 := Lib.hid h6
    have Q2 := Lib.hid q2
    have HRD := Lib.hid hrd
    have HO1 : Hid (o + od.length ≤ L) := Lib.hid ho1
    have hoL : o ≤ L := by omega
    clear h1 h2 h3 h4 h5 h6 q1 q2 hrd ho1 hcur hpm hL0 ho0
    gi_wp2_with (refine ⟨trivial, ?_⟩; gi_at_call 57; refine (CallsIn.inRound l' (callsIn_wide.2 HRES.out)).mono ?_; go_must (rintro e w1 ⟨v1, rfl, hr1, hg1, hf1⟩; obtain ⟨a1, cc1, rfl⟩ := hr1.rd.len; rw [sized_len] at *; have HR1 := Lib.hid hr1; have HG1 := Lib.hid hg1; have HF1 := Lib.hid hf1; have hbx : w1.heap[w.heap.size]? = some (.cells #[.slice av cur.length cv] 22 (0, 0)) := blk_kept' H1.out hg1 (fun e => by have := H2.out.blkType e H1.out; cases this); have HBX := Lib.hid hbx; have e0 : w1.cell? ⟨w.heap.size, 0, none⟩ = some (.slice av cur.length cv) := cell_row hbx; have e1 : w1.frozen? ⟨w.heap.size, 0, none⟩ = false := frozen_row hbx; clear hr1 hg1 hf1 hbx))
    have hbx2 := heap_setCell_same _ _ 0 _ _ (.slice a1 L cc1) HBX.out
    have hq2 : w1.heap[g]? = some (.cells #[.int .i64 (o : Int), .int .i64 (L : Int), .slice ad od.length cd] 65 (0, 0)) := blk_kept' Q2.out HG1.out (fun e => by have := H2.out.blkType e Q2.out; cases this)
    have hq3 : (w1.setCell ⟨w.heap.size, 0, none⟩ (.slice a1 L cc1)).heap[g]? = some (.cells #[.int .i64 (o : Int), .int .i64 (L : Int), .slice ad od.length cd] 65 (0, 0)) := by
      rw [heap_setCell_other _ _ _ _ (by simp; omega)]; exact hq2
    have hne1 : (Value.slice a1 L cc1).ownBlock ≠ some w.heap.size := fun e => by
      have := HR1.out.blkType e HBX.out; cases this
    have hd1 : RdW w1 (.slice ad od.length cd) od := HRD.out.kept HG1.out (fun hne k hk e => by
      have h7 := HDN.out hne k hk
      rcases H3.out k e with h | h
      · exact h7.2 h
      · omega)
    have hd2 : RdW (w1.setCell ⟨w.heap.size, 0, none⟩ (.slice a1 L cc1)) (.slice ad od.length cd) od := hd1.kept (gb_setCell _ _ _) (fun hne k hk e => by
      have h7 := HDN.out hne k hk
      simp only [Option.some.injEq] at e
      omega)
    have ho2 : Own (w1.setCell ⟨w.heap.size, 0, none⟩ (.slice a1 L cc1)) 0 (.slice a1 L cc1) (sized cur L) := HR1.out.kept (gb_setCell _ _ _) (fun k hk e => hne1 (by rw [hk]; simp only [Option.some.injEq] at e ⊢; exact e.symm))
    obtain ⟨w2, hw2⟩ : ∃ w2, w1.setCell ⟨w.heap.size, 0, none⟩ (.slice a1 L cc1) = w2 := ⟨_, rfl⟩
    rw [hw2] at hbx2 hq3 hd2 ho2 ⊢
    have HW2 := Lib.hid hw2
    have HO2 := Lib.hid ho2
    have HD2' := Lib.hid hd2
    have s0 : w2.drew.cell? ⟨w.heap.size, 0, none⟩ = some (.slice a1 L cc1) := cell_row (w := w2) hbx2
    have s1 : w2.drew.cell? ⟨g, 0, none⟩ = some (.int .i64 o) := cell_row (w := w2) hq3
    have s2 : w2.drew.cell? ⟨g, 2, none⟩ = some (.slice ad od.length cd) := cell_row (w := w2) hq3
    have hcase : (L = 0 ∧ a1 = none ∧ cc1 = 0) ∨ (∃ g1, a1 = some ⟨g1, 0, none⟩ ∧ L ≤ cc1 ∧ (cc1 : Int) ≤ 9223372036854775807) := by
      rcases HR1.out.2 with ⟨h0, hn0⟩ | ⟨g1, cap, cu, h0, _, _, hnc, hcm, _⟩
      · rw [sized_len] at hn0
        simp only [Value.slice.injEq] at h0
        exact .inl ⟨hn0, h0.1, h0.2.2⟩
      · rw [sized_len] at hnc
        simp only [Value.slice.injEq] at h0
        simp only [maxLen] at hcm
        exact .inr ⟨g1, h0.1, by omega, by omega⟩
    clear hbx2 hq2 hq3 hd1 hd2 ho2 hw2 e0 e1 c0 c1
    have hnl : ¬ LetsOut (Exit.inBlock 1 (ownPostG W4.heap.size (TKp (w.heap.size + 2) w.heap.size (Value.slice a0 l.length c0)) (TInv w (Value.slice a0 l.length c0) (Value.slice al ps.length cl) l ps) (fun _ _ _ => False) (pre ++ [x]) W)) := fun h => by
      obtain ⟨a, w, h⟩ := h
      exact h
    have HFIN := Lib.hid (fun (W3 : World) (ho3 : Own W3 0 (.slice a1 L cc1) (takeR cur ((o : Int), (L : Int), od))) (hg3 : w2.drew.grownBy W3 (Value.slice a1 L cc1).ownBlock) => tb_fin (B := W4.heap.size) (x := x) H5.out H1.out H2.out H3.out H4.out H6.out (by rw [HZ4.out]; exact Nat.le_refl _) HG1.out HF1.out ho3 (by rw [HW2.out]; exact hg3) HT.out)
    have HTR : Hid (takeR cur ((o : Int), (L : Int), od) = putAt (sized cur L) o od) := Lib.hid rfl
    clear HT
    rcases hcase with ⟨rfl, rfl, rfl⟩ | ⟨g1, rfl, hLc, hcm⟩
    · have HOD : Hid (od = []) := Lib.hid (List.eq_nil_of_length_eq_zero (by have := HO1.out; omega))
      obtain rfl : o = 0 := by omega
      · refine region_KL_round (fuel := 7) (listed := #[false, false, false, false, false, false, false]) (fun W => W.cell? ⟨w.heap.size, 0, none⟩ = some (.slice none 0 0) ∧ W.cell? ⟨g, 0, none⟩ = some (.int .i64 ((0 : Nat) : Int)) ∧ W.cell? ⟨g, 2, none⟩ = some (.slice ad od.length cd)) 6 (by kernel_rfl) l' (by kernel_rfl) hnl rfl (by kernel_rfl) ?_
        have HS0 := And.intro s0 (And.intro s1 s2)
        refine wpAnyK_takeL (i := 0) (d := 15) (v := ?_) (T' := ?_) (listed' := #[true, false, false, false, false, false, false]) rfl rfl (by kernel_rfl) (fun _ _ _ h => h) rfl (Or.inl ⟨by rfl, ?_⟩) ?_ HS0 ?_
        rotate_left 2
        · intro w hS; have t0 := hS.1; clear hS; go_simp; rfl
        · simp only [List.setIfInBounds_toArray, List.set_cons_succ, List.set_cons_zero]; rfl
        refine wpAnyK_takeL (i := 1) (d := 16) (v := ?_) (T' := ?_) (listed' := #[true, true, false, false, false, false, false]) rfl rfl (by kernel_rfl) (fun _ _ _ h => h) rfl (Or.inl ⟨by rfl, ?_⟩) ?_ HS0 ?_
        rotate_left 2
        · intro w hS; clear hS; go_simp; rfl
        · simp only [List.setIfInBounds_toArray, List.set_cons_succ, List.set_cons_zero]; rfl
        refine wpAnyK_takeL (i := 2) (d := 17) (v := ?_) (T' := ?_) (listed' := #[true, true, true, false, false, false, false]) rfl rfl (by kernel_rfl) (fun _ _ _ h => h) rfl (Or.inl ⟨by rfl, ?_⟩) ?_ HS0 ?_
        rotate_left 2
        · intro w hS; have t1 := hS.2.1; clear hS; go_simp; rfl
        · simp only [List.setIfInBounds_toArray, List.set_cons_succ, List.set_cons_zero]; rfl
        refine wpAnyK_takeL (i := 3) (d := 18) (v := ?_) (T' := ?_) (listed' := #[true, true, true, true, false, false, false]) rfl rfl (by kernel_rfl) (fun _ _ _ h => h) rfl (Or.inl ⟨by rfl, ?_⟩) ?_ HS0 ?_
        rotate_left 2
        · intro w hS; clear hS; go_simp; rfl
        · simp only [List.setIfInBounds_toArray, List.set_cons_succ, List.set_cons_zero]; rfl
        refine wpAnyK_takeL (i := 4) (d := 19) (v := ?_) (T' := ?_) (listed' := #[true, true, true, true, true, false, false]) rfl rfl (by kernel_rfl) (fun _ _ _ h => h) rfl (Or.inl ⟨by rfl, ?_⟩) ?_ HS0 ?_
        rotate_left 2
        · intro w hS; clear hS; go_simp; rfl
        · simp only [List.setIfInBounds_toArray, List.set_cons_succ, List.set_cons_zero]; rfl
        refine wpAnyK_takeL (i := 5) (d := 20) (v := ?_) (T' := ?_) (listed' := #[true, true, true, true, true, true, false]) rfl rfl (by kernel_rfl) (fun _ _ _ h => h) rfl (Or.inl ⟨by rfl, ?_⟩) ?_ HS0 ?_
        rotate_left 2
        · intro w hS; have t2 := hS.2.2; clear hS; go_simp; rfl
        · simp only [List.setIfInBounds_toArray, List.set_cons_succ, List.set_cons_zero]; rfl
        refine wpAnyK_oneL (i := 6) (listed' := #[true, true, true, true, true, true, true]) (by kernel_rfl) rfl (by rfl) rfl ?_
        intro K hK
        refine copy_put_op _ _ rfl 0 (.slice none 0 0) (sized cur 0) od 0 _ _ _ _ _ _ rfl rfl (HO2.out.grown (gb_drew _ _)) (HD2'.out.grown (gb_drew _ _)) (by rw [sized_len]; exact HO1.out) (by first | (rw [sized_len]; done) | (rw [sized_len]; omega)) (fun h => absurd HOD.out h) ?_
        intro w' h1 h2
        refine hK _ _ (fun h => Bool.noConfusion (show true = false from h)) ?_
        refine wpAnyK_done (by kernel_rfl) ?_ _
        exact HFIN.out w' (by rw [HTR.out]; exact h1) h2
    · by_cases hco : cc1 = o
      · have HOD : Hid (od = []) := Lib.hid (List.eq_nil_of_length_eq_zero (by have := HO1.out; omega))
        obtain rfl : L = o := by omega
        subst hco
        refine region_KL_round (fuel := 7) (listed := #[false, false, false, false, false, false, false]) (fun W => W.cell? ⟨w.heap.size, 0, none⟩ = some (.slice (some ⟨g1, 0, none⟩) cc1 cc1) ∧ W.cell? ⟨g, 0, none⟩ = some (.int .i64 (cc1 : Int)) ∧ W.cell? ⟨g, 2, none⟩ = some (.slice ad od.length cd)) 6 (by kernel_rfl) l' (by kernel_rfl) hnl rfl (by kernel_rfl) ?_
        have HS0 := And.intro s0 (And.intro s1 s2)
        refine wpAnyK_takeL (i := 0) (d := 15) (v := ?_) (T' := ?_) (listed' := #[true, false, false, false, false, false, false]) rfl rfl (by kernel_rfl) (fun _ _ _ h => h) rfl (Or.inl ⟨by rfl, ?_⟩) ?_ HS0 ?_
        rotate_left 2
        · intro w hS; have t0 := hS.1; clear hS; go_simp; rfl
        · simp only [List.setIfInBounds_toArray, List.set_cons_succ, List.set_cons_zero]; rfl
        refine wpAnyK_takeL (i := 1) (d := 16) (v := ?_) (T' := ?_) (listed' := #[true, true, false, false, false, false, false]) rfl rfl (by kernel_rfl) (fun _ _ _ h => h) rfl (Or.inl ⟨by rfl, ?_⟩) ?_ HS0 ?_
        rotate_left 2
        · intro w hS; clear hS; go_simp; rfl
        · simp only [List.setIfInBounds_toArray, List.set_cons_succ, List.set_cons_zero]; rfl
        refine wpAnyK_takeL (i := 2) (d := 17) (v := ?_) (T' := ?_) (listed' := #[true, true, true, false, false, false, false]) rfl rfl (by kernel_rfl) (fun _ _ _ h => h) rfl (Or.inl ⟨by rfl, ?_⟩) ?_ HS0 ?_
        rotate_left 2
        · intro w hS; have t1 := hS.2.1; clear hS; go_simp; rfl
        · simp only [List.setIfInBounds_toArray, List.set_cons_succ, List.set_cons_zero]; rfl
        refine wpAnyK_takeL (i := 3) (d := 18) (v := ?_) (T' := ?_) (listed' := #[true, true, true, true, false, false, false]) rfl rfl (by kernel_rfl) (fun _ _ _ h => h) rfl (Or.inl ⟨by rfl, ?_⟩) ?_ HS0 ?_
        rotate_left 2
        · intro w hS; clear hS; go_simp; rfl
        · simp only [List.setIfInBounds_toArray, List.set_cons_succ, List.set_cons_zero]; rfl
        refine wpAnyK_takeL (i := 4) (d := 19) (v := ?_) (T' := ?_) (listed' := #[true, true, true, true, true, false, false]) rfl rfl (by kernel_rfl) (fun _ _ _ h => h) rfl (Or.inl ⟨by rfl, ?_⟩) ?_ HS0 ?_
        rotate_left 2
        · intro w hS; clear hS; go_simp; rfl
        · simp only [List.setIfInBounds_toArray, List.set_cons_succ, List.set_cons_zero]; rfl
        refine wpAnyK_takeL (i := 5) (d := 20) (v := ?_) (T' := ?_) (listed' := #[true, true, true, true, true, true, false]) rfl rfl (by kernel_rfl) (fun _ _ _ h => h) rfl (Or.inl ⟨by rfl, ?_⟩) ?_ HS0 ?_
        rotate_left 2
        · intro w hS; have t2 := hS.2.2; clear hS; go_simp; rfl
        · simp only [List.setIfInBounds_toArray, List.set_cons_succ, List.set_cons_zero]; rfl
        refine wpAnyK_oneL (i := 6) (listed' := #[true, true, true, true, true, true, true]) (by kernel_rfl) rfl (by rfl) rfl ?_
        intro K hK
        refine copy_put_op _ _ rfl 0 (.slice (some ⟨g1, 0, none⟩) cc1 cc1) (sized cur cc1) od cc1 _ _ _ _ _ _ rfl rfl (HO2.out.grown (gb_drew _ _)) (HD2'.out.grown (gb_drew _ _)) (by rw [sized_len]; exact HO1.out) (by first | (rw [sized_len]; done) | (rw [sized_len]; omega)) (fun h => absurd HOD.out h) ?_
        intro w' h1 h2
        refine hK _ _ (fun h => Bool.noConfusion (show true = false from h)) ?_
        refine wpAnyK_done (by kernel_rfl) ?_ _
        exact HFIN.out w' (by rw [HTR.out]; exact h1) h2
      · have hco2 : o < cc1 := by omega
        refine region_KL_round (fuel := 7) (listed := #[false, false, false, false, false, false, false]) (fun W => W.cell? ⟨w.heap.size, 0, none⟩ = some (.slice (some ⟨g1, 0, none⟩) L cc1) ∧ W.cell? ⟨g, 0, none⟩ = some (.int .i64 (o : Int)) ∧ W.cell? ⟨g, 2, none⟩ = some (.slice ad od.length cd)) 6 (by kernel_rfl) l' (by kernel_rfl) hnl rfl (by kernel_rfl) ?_
        have HS0 := And.intro s0 (And.intro s1 s2)
        refine wpAnyK_takeL (i := 0) (d := 15) (v := ?_) (T' := ?_) (listed' := #[true, false, false, false, false, false, false]) rfl rfl (by kernel_rfl) (fun _ _ _ h => h) rfl (Or.inl ⟨by rfl, ?_⟩) ?_ HS0 ?_
        rotate_left 2
        · intro w hS; have t0 := hS.1; clear hS; go_simp; rfl
        · simp only [List.setIfInBounds_toArray, List.set_cons_succ, List.set_cons_zero]; rfl
        refine wpAnyK_takeL (i := 1) (d := 16) (v := ?_) (T' := ?_) (listed' := #[true, true, false, false, false, false, false]) rfl rfl (by kernel_rfl) (fun _ _ _ h => h) rfl (Or.inl ⟨by rfl, ?_⟩) ?_ HS0 ?_
        rotate_left 2
        · intro w hS; clear hS; go_simp; rfl
        · simp only [List.setIfInBounds_toArray, List.set_cons_succ, List.set_cons_zero]; rfl
        refine wpAnyK_takeL (i := 2) (d := 17) (v := ?_) (T' := ?_) (listed' := #[true, true, true, false, false, false, false]) rfl rfl (by kernel_rfl) (fun _ _ _ h => h) rfl (Or.inl ⟨by rfl, ?_⟩) ?_ HS0 ?_
        rotate_left 2
        · intro w hS; have t1 := hS.2.1; clear hS; go_simp; rfl
        · simp only [List.setIfInBounds_toArray, List.set_cons_succ, List.set_cons_zero]; rfl
        refine wpAnyK_takeL (i := 3) (d := 18) (v := ?_) (T' := ?_) (listed' := #[true, true, true, true, false, false, false]) rfl rfl (by kernel_rfl) (fun _ _ _ h => h) rfl (Or.inl ⟨by rfl, ?_⟩) ?_ HS0 ?_
        rotate_left 2
        · intro w hS; clear hS; go_simp; rfl
        · simp only [List.setIfInBounds_toArray, List.set_cons_succ, List.set_cons_zero]; rfl
        refine wpAnyK_takeL (i := 4) (d := 19) (v := ?_) (T' := ?_) (listed' := #[true, true, true, true, true, false, false]) rfl rfl (by kernel_rfl) (fun _ _ _ h => h) rfl (Or.inl ⟨by rfl, ?_⟩) ?_ HS0 ?_
        rotate_left 2
        · intro w hS; clear hS; go_simp; rfl
        · simp only [List.setIfInBounds_toArray, List.set_cons_succ, List.set_cons_zero]; rfl
        refine wpAnyK_takeL (i := 5) (d := 20) (v := ?_) (T' := ?_) (listed' := #[true, true, true, true, true, true, false]) rfl rfl (by kernel_rfl) (fun _ _ _ h => h) rfl (Or.inl ⟨by rfl, ?_⟩) ?_ HS0 ?_
        rotate_left 2
        · intro w hS; have t2 := hS.2.2; clear hS; go_simp; rfl
        · simp only [List.setIfInBounds_toArray, List.set_cons_succ, List.set_cons_zero]; rfl
        refine wpAnyK_oneL (i := 6) (listed' := #[true, true, true, true, true, true, true]) (by kernel_rfl) rfl (by rfl) rfl ?_
        intro K hK
        refine copy_put_op _ _ rfl 0 (.slice (some ⟨g1, 0, none⟩) L cc1) (sized cur L) od o _ _ _ _ _ _ rfl rfl (HO2.out.grown (gb_drew _ _)) (HD2'.out.grown (gb_drew _ _)) (by rw [sized_len]; exact HO1.out) (by first | (rw [sized_len]; done) | (rw [sized_len]; omega)) (fun _ => ⟨g1, cc1, by rw [sized_len], rfl⟩) ?_
        intro w' h1 h2
        refine hK _ _ (fun h => Bool.noConfusion (show true = false from h)) ?_
        refine wpAnyK_done (by kernel_rfl) ?_ _
        exact HFIN.out w' (by rw [HTR.out]; exact h1) h2
  case done =>
    rintro D ys W hD hys ⟨v, h1, h2, h3, h4, h5, h6⟩ hK
    rw [recsOf_all rfl hys] at h2
    obtain ⟨cur, hcur⟩ : ∃ cur, takeAll l (ps.map (·.1)).reverse = cur := ⟨_, rfl⟩
    have HCUR : Hid (recL l (ps.map (·.1)) = cur) := Lib.hid hcur
    rw [hcur] at h2
    obtain ⟨av, cv, rfl⟩ := h2.rd.len
    have c1 : W.cell? ⟨w.heap.size, 0, none⟩ = some (.slice av cur.length cv) := cell_row h1
    have H2 := Lib.hid h2
    have H3 := Lib.hid h3
    have H4 := Lib.hid h4
    have HKD := Lib.hid hK
    clear h1 h2 h3 h4 h5 h6 hys hK hcur
    gi_wp2
    refine ⟨by simp, .inl ⟨_, _, rfl, run_takeDeferred HKD.out, ?_⟩⟩
    have gP := grownBy_putObj' W D (.deferred none)
    refine ⟨.slice av cur.length cv, by simp [results, Try.results37, go_sem], .slice av cur.length cv, rfl, ?_, ?_, H3.out⟩
    · rw [HCUR.out]
      exact H2.out.kept gP (noncell_ne H2.out (fun r e => by cases e; exact ⟨_, HKD.out, rfl⟩))
    · exact gb_trans H4.out gP (fun k hk => .inr (by cases hk; have := HZ4.out; omega))
  case stop =>
    rintro D c pre W _ _ h _
    exact h.elim
end Go.Proofs.Ytfdkmncjcehdkaa
