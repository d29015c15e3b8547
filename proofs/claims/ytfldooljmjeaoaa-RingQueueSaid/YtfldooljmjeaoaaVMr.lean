/-
  Reader.Msg.
-/
import Derived.Test.YtfldooljmjeaoaaVF
namespace Go.Proofs.Ytfldooljmjeaoaa
open Go.RowKit Go.Shelf

def rdM (bs : List UInt8) (p : Nat) : Option ((List Int × List UInt8) × Nat) :=
  match rdIs 4 bs p with
  | none => none
  | some (z1, q1) => match rdIs 4 bs q1 with
    | none => none
    | some (z2, q2) => match rdBytes 1536 bs q2 with
      | none => none
      | some (l, q3) => some ((z1 ++ z2, l), q3)

/-- a row of integers with a slice behind them -/
def rowI (zs : List Int) (dv : Value) : List Value := ivs zs ++ [dv]
def G_row (n : Nat) (v : Value) : Prop := ∃ zs dv, zs.length = n ∧ v = .agg (rowI zs dv).toArray ∧ ∃ a m c, dv = .slice a m c
def OwnM (B : Nat) (x : List Int × List UInt8) (v : Value) (w : World) : Prop := ∃ dv, v = .agg (rowI x.1 dv).toArray ∧ Own w B dv x.2
theorem rowI_len (zs : List Int) (dv : Value) : (rowI zs dv).length = zs.length + 1 := by simp [rowI, ivs]
theorem rowI_one {zs : List Int} {dv : Value} (h : ∃ a n c, dv = .slice a n c) : (rowI zs dv).toArray.toList.all (·.oneCell') = true := by
  obtain ⟨a, n, c, rfl⟩ := h
  simp only [rowI, List.all_append, Bool.and_eq_true]
  refine ⟨?_, rfl⟩
  rw [List.all_eq_true]
  intro x hx
  simp only [ivs, List.mem_map] at hx
  obtain ⟨z, _, rfl⟩ := hx
  rfl
theorem rowI_get {zs : List Int} {dv : Value} {n : Nat} (h : zs.length = n) : (rowI zs dv)[n]? = some dv := by
  subst h
  unfold rowI ivs
  rw [List.getElem?_append_right (by simp)]
  simp
theorem rowI_set {zs : List Int} {dv dv' : Value} {n : Nat} (h : zs.length = n) : (rowI zs dv).set n dv' = rowI zs dv' := by
  subst h
  unfold rowI ivs
  rw [List.set_append_right _ _ (by simp)]
  simp
theorem fill44 {zs ys : List Int} (h1 : zs.length = 4) (h2 : ys.length = 4) (dv : Value) (a b c d e f g i : Int) : fillRow 4 (fillRow 0 (rowI [a, b, c, d, e, f, g, i] dv) zs) ys = rowI (zs ++ ys) dv := by
  match zs, h1, ys, h2 with
  | [z0, z1, z2, z3], _, [y0, y1, y2, y3], _ => rfl
theorem RdL.lit (w : World) (cs : List Value) (t : TypeId) (hm : cs.length ≤ maxLen) (n : Nat) (hn : cs.length = n) : RdL (w.alloc (.cells cs.toArray t)) (.slice (some ⟨w.heap.size, 0, none⟩) n n) cs := by
  subst hn
  refine .inr ⟨w.heap.size, 0, cs.length, rfl, Nat.le_refl _, hm, fun j x hj => ?_⟩
  rw [World.cell?_alloc_at _ _ _ _ rfl, Nat.zero_add, List.getElem?_toArray, hj]

theorem fill4 {zs : List Int} (h1 : zs.length = 4) (dv : Value) : fillRow 0 (rowI [0, 0, 0, 0, 0, 0, 0, 0] dv) zs = rowI (zs ++ [0, 0, 0, 0]) dv := by
  match zs, h1 with
  | [z0, z1, z2, z3], _ => rfl
theorem fill4b {zs ys : List Int} (h1 : zs.length = 4) (h2 : ys.length = 4) (dv : Value) : fillRow 4 (rowI (zs ++ [0, 0, 0, 0]) dv) ys = rowI (zs ++ ys) dv := by
  match zs, h1, ys, h2 with
  | [z0, z1, z2, z3], _, [y0, y1, y2, y3], _ => rfl
theorem rowI_int {zs : List Int} {dv : Value} {j : Nat} (h : j < zs.length) : ∃ z, (rowI zs dv)[j]? = some (.int .i64 z) := by
  refine ⟨zs[j], ?_⟩
  unfold rowI ivs
  rw [List.getElem?_append_left (by simpa using h)]
  simp [h]

theorem own_blk {g o n c k : Nat} (h : (Value.slice (some ⟨g, o, none⟩) n c).ownBlock = some k) : g = k := Option.some.inj h

def BytesU (w : World) (b : Nat) (sl : Value) (bs : List UInt8) (p : Nat) (f : Bool) (most : Int) (B : Nat) (e : Ending) (w' : World) : Prop :=
  ∃ (a : Option Addr) (n c : Nat) (l : List UInt8) (q : Nat) (g : Bool), e = .returned (.slice a n c) ∧ Own w' B (.slice a n c) l ∧ IsR w' b sl bs q g ∧ w.grownBy w' (some b) ∧ (g = false → f = false ∧ rdBytes most bs p = some (l, q)) ∧ (g = true → unl f (rdBytes most bs p) = none)
theorem bytes_u (b : Nat) (sl : Value) (bs : List UInt8) (p : Nat) (f : Bool) (w : World) (most : Int) (B : Nat) (h : IsR w b sl bs p f) (hB : B ≤ w.heap.size) (hmo : most ≤ 9223372036854775807) :
    Calls Try.prog 53 #[.pointer (some ⟨b, 0, none⟩), .int .i64 most] w (BytesU w b sl bs p f most B) := by
  refine (bytes_any b sl bs p f w most B h hB hmo).mono fun e w' hr => ?_
  cases f with
  | true =>
    obtain ⟨h1, h2, h3⟩ := hr
    exact ⟨none, 0, 0, [], p, true, h1, Own.nil _ _, h2, h3, (fun e => by cases e), fun _ => rfl⟩
  | false =>
    cases hd : rdBytes most bs p with
    | none =>
      rw [unl_f, hd] at hr
      obtain ⟨h1, h2, h3⟩ := hr
      exact ⟨none, 0, 0, [], p, true, h1, Own.nil _ _, h2, h3, (fun e => by cases e), (fun _ => by rw [unl_f, hd])⟩
    | some r =>
      obtain ⟨l, q⟩ := r
      rw [unl_f, hd] at hr
      obtain ⟨v, h1, h2, h3, h4⟩ := hr
      obtain ⟨a, c, rfl⟩ := h2.rd.len
      exact ⟨a, _, c, l, q, false, h1, h2, h3, h4, fun _ => ⟨rfl, hd⟩, (fun e => by cases e)⟩

theorem rdM_state {bs : List UInt8} {p q1 q2 q3 : Nat} {z1 z2 : List Int} {l : List UInt8} {f1 f2 f3 : Bool}
    (a1 : f1 = false → rdIs 4 bs p = some (z1, q1)) (a2 : f1 = true → unl false (rdIs 4 bs p) = none)
    (b1 : f2 = false → f1 = false ∧ rdIs 4 bs q1 = some (z2, q2)) (b2 : f2 = true → unl f1 (rdIs 4 bs q1) = none)
    (c1 : f3 = false → f2 = false ∧ rdBytes 1536 bs q2 = some (l, q3)) (c2 : f3 = true → unl f2 (rdBytes 1536 bs q2) = none) :
    (f3 = false → rdM bs p = some ((z1 ++ z2, l), q3)) ∧ (f3 = true → rdM bs p = none) := by
  unfold rdM
  refine ⟨fun e => ?_, fun e => ?_⟩
  · obtain ⟨e2, h3⟩ := c1 e
    obtain ⟨e1, h2⟩ := b1 e2
    rw [a1 e1]
    simp only [h2, h3]
  · cases f1 with
    | true => have := a2 rfl; rw [unl_f] at this; rw [this]
    | false =>
      rw [a1 rfl]
      cases f2 with
      | true => have := b2 rfl; rw [unl_f] at this; simp only [this]
      | false => have := c2 e; rw [unl_f] at this; simp only [(b1 rfl).2, this]

set_option maxRecDepth 100000 in
set_option maxHeartbeats 4000000 in
theorem msg1 (b : Nat) (sl : Value) (bs : List UInt8) (p : Nat) (w : World) (B k0 : Nat) (h : IsR w b sl bs p false) (hB : B ≤ w.heap.size)
    (b0 : w.heap[k0]? = some (.cells #[.pointer (some ⟨b, 0, none⟩)] 62 (0, 0))) (n0 : k0 ≠ b) :
    Calls Try.prog 51 #[.pointer (some ⟨k0, 0, none⟩)] w (PartsE w b sl bs (G_row 8) (OwnM B) (rdM bs p)) := by
  have hk0 := lt_of_block b0
  have hbl := h.lt
  obtain ⟨wa, hwa⟩ : ∃ W, W = (w.alloc (Obj.cells (rowI [0, 0, 0, 0, 0, 0, 0, 0] (.slice none 0 0)).toArray 39)).alloc (Obj.cells (rowI [0, 0, 0, 0, 0, 0, 0, 0] (.slice none 0 0)).toArray 39) := ⟨_, rfl⟩
  have ga : w.grownBy wa none := by rw [hwa]; exact gb_same (gb_alloc _ _ _) (gb_alloc _ _ _)
  have r1 : wa.heap[w.heap.size]? = some (.cells (rowI [0, 0, 0, 0, 0, 0, 0, 0] (.slice none 0 0)).toArray 39 (0, 0)) := by rw [hwa]; exact heap_alloc2_old _ _ _
  have r2 : wa.heap[w.heap.size + 1]? = some (.cells (rowI [0, 0, 0, 0, 0, 0, 0, 0] (.slice none 0 0)).toArray 39 (0, 0)) := by rw [hwa]; exact heap_alloc2_new _ _ _
  have sa : wa.heap.size = w.heap.size + 2 := by rw [hwa]; simp
  have HRA := Lib.hid (h.grown ga)
  have HB0 := Lib.hid b0
  have HGA := Lib.hid ga
  have HR1 := Lib.hid r1
  have HR2 := Lib.hid r2
  have HSA := Lib.hid sa
  have HWA := Lib.hid hwa
  have HSL := Lib.hid (fun hne => Rd.blk h.rd hne)
  have c0 := cell_of_one b0
  clear h b0 ga r1 r2 sa hwa
  go_enter Try.func51, Try.ntmps51
  go_wp2_with fail
  have hmx : (4 : Nat) ≤ maxLen := by simp only [maxLen]; omega
  obtain ⟨wb, hwb⟩ : ∃ W, W = wa.alloc (Obj.cells #[.pointer (some ⟨w.heap.size + 1, 0, none⟩), .pointer (some ⟨w.heap.size + 1, 1, none⟩), .pointer (some ⟨w.heap.size + 1, 2, none⟩), .pointer (some ⟨w.heap.size + 1, 3, none⟩)] 85) := ⟨_, rfl⟩
  have hpb : RdL wb (.slice (some ⟨w.heap.size + 2, 0, none⟩) 4 4) (ptrs (w.heap.size + 1) 0 4) := by rw [hwb, ← HSA.out]; exact RdL.lit wa [.pointer (some ⟨w.heap.size + 1, 0, none⟩), .pointer (some ⟨w.heap.size + 1, 1, none⟩), .pointer (some ⟨w.heap.size + 1, 2, none⟩), .pointer (some ⟨w.heap.size + 1, 3, none⟩)] 85 hmx 4 rfl
  have gab : wa.grownBy wb none := by rw [hwb]; exact gb_alloc _ _ _
  have HF := Lib.hid (fill_any w b sl bs p false (.slice (some ⟨w.heap.size + 2, 0, none⟩) 4 4) (w.heap.size + 1) 0 4 (rowI [0, 0, 0, 0, 0, 0, 0, 0] (.slice none 0 0)) 39 wb (HRA.out.grown gab) hpb (blk_kept HR2.out gab) (by decide) (by omega) (fun k hk => by have e := own_blk hk; omega) hbl HSL.out (gb_none _ (gb_same HGA.out gab)) (by omega) (by omega) (fun j hj => rowI_int (by simp; omega)))
  have HRB1 := Lib.hid (blk_kept HR1.out gab)
  have HSB : Hid (wb.heap.size = w.heap.size + 3) := Lib.hid (by rw [hwb]; simp [HSA.out])
  have HWB : Hid (wb = ((w.alloc (Obj.cells #[.int .i64 0, .int .i64 0, .int .i64 0, .int .i64 0, .int .i64 0, .int .i64 0, .int .i64 0, .int .i64 0, .slice none 0 0] 39)).alloc (Obj.cells #[.int .i64 0, .int .i64 0, .int .i64 0, .int .i64 0, .int .i64 0, .int .i64 0, .int .i64 0, .int .i64 0, .slice none 0 0] 39)).alloc (Obj.cells #[.pointer (some ⟨w.heap.size + 1, 0, none⟩), .pointer (some ⟨w.heap.size + 1, 1, none⟩), .pointer (some ⟨w.heap.size + 1, 2, none⟩), .pointer (some ⟨w.heap.size + 1, 3, none⟩)] 85)) := Lib.hid (by rw [hwb, HWA.out]; rfl)
  clear hwb hpb gab c0
  rw [← HWB.out]
  refine HF.out.mono ?_
  rintro e w1 ⟨rfl, z1, q1, f1, hrow1, hg1, hR1, s1, s2, hl1, _, hsz1, hk1⟩
  rw [fill4 hl1] at hrow1
  have d0 := cell_of_one (box_kept HB0.out hg1 n0)
  have HS1 := Lib.hid s1
  have HS2 := Lib.hid s2
  have HL1 := Lib.hid hl1
  have HROW1 := Lib.hid hrow1
  have HG1 := Lib.hid hg1
  have HR1' := Lib.hid hR1
  have HX1 : Hid (w1.heap[w.heap.size]? = some (.cells (rowI [0, 0, 0, 0, 0, 0, 0, 0] (.slice none 0 0)).toArray 39 (0, 0))) := Lib.hid (by rw [hk1 _ (by rw [HSB.out]; omega) (by omega) (by omega)]; exact HRB1.out)
  have HZ1 := Lib.hid hsz1
  clear s1 s2 hl1 hrow1 hg1 hR1 hk1 hsz1 HF HRB1 HWB HR1 HR2 HWA HSA HRA
  go_wp2_with fail
  obtain ⟨wc, hwc⟩ : ∃ W, W = w1.alloc (Obj.cells #[.pointer (some ⟨w.heap.size + 1, 4, none⟩), .pointer (some ⟨w.heap.size + 1, 5, none⟩), .pointer (some ⟨w.heap.size + 1, 6, none⟩), .pointer (some ⟨w.heap.size + 1, 7, none⟩)] 85) := ⟨_, rfl⟩
  have hpc : RdL wc (.slice (some ⟨w1.heap.size, 0, none⟩) 4 4) (ptrs (w.heap.size + 1) 4 4) := by rw [hwc]; exact RdL.lit w1 [.pointer (some ⟨w.heap.size + 1, 4, none⟩), .pointer (some ⟨w.heap.size + 1, 5, none⟩), .pointer (some ⟨w.heap.size + 1, 6, none⟩), .pointer (some ⟨w.heap.size + 1, 7, none⟩)] 85 hmx 4 rfl
  have gac : w1.grownBy wc none := by rw [hwc]; exact gb_alloc _ _ _
  have hz1 := HZ1.out
  have hsb : w.heap.size + 3 ≤ w1.heap.size := by rw [← HSB.out]; exact hz1
  have HF2 := Lib.hid (fill_any w b sl bs q1 f1 (.slice (some ⟨w1.heap.size, 0, none⟩) 4 4) (w.heap.size + 1) 4 4 (rowI (z1 ++ [0, 0, 0, 0]) (.slice none 0 0)) 39 wc (HR1'.out.grown gac) hpc (blk_kept HROW1.out gac) (by rw [rowI_len, List.length_append, HL1.out]; decide) (by omega) (fun k hk => by have e := own_blk hk; omega) hbl HSL.out (gb_trans0 HG1.out gac) (by omega) (by omega) (fun j hj => rowI_int (by rw [List.length_append, HL1.out]; simp; omega)))
  have HXC := Lib.hid (blk_kept HX1.out gac)
  have HSC : Hid (wc.heap.size = w1.heap.size + 1) := Lib.hid (by rw [hwc]; simp)
  rw [← hwc]
  clear hwc hpc gac d0 hz1
  refine HF2.out.mono ?_
  rintro e w2 ⟨rfl, z2, q2, f2, hrow2, hg2, hR2, t1, t2, hl2, _, hsz2, hk2⟩
  rw [fill4b HL1.out hl2] at hrow2
  have d0 := cell_of_one (box_kept HB0.out hg2 n0)
  have HT1 := Lib.hid t1
  have HT2 := Lib.hid t2
  have HL2 := Lib.hid hl2
  have HROW2 := Lib.hid hrow2
  have HG2 := Lib.hid hg2
  have HX2 : Hid (w2.heap[w.heap.size]? = some (.cells (rowI [0, 0, 0, 0, 0, 0, 0, 0] (.slice none 0 0)).toArray 39 (0, 0))) := Lib.hid (by rw [hk2 _ (by rw [HSC.out]; omega) (by omega) (by omega)]; exact HXC.out)
  have HBY := Lib.hid (bytes_u b sl bs q2 f2 w2 1536 w2.heap.size hR2 (Nat.le_refl _) (by omega))
  have hs2 : w.heap.size + 3 ≤ w2.heap.size := by have h1 := HSC.out; omega
  clear t1 t2 hl2 hrow2 hg2 hR2 hk2 hsz2 HF2 HXC HSC HX1 HROW1 HG1 HR1'
  go_wp2_with fail
  refine HBY.out.mono ?_
  rintro e w3 ⟨a3, n3, c3, l, q3, f3, rfl, ho3, hR3, hg3, u1, u2⟩
  have hl8 : (z1 ++ z2).length = 8 := by rw [List.length_append, HL1.out, HL2.out]
  have hrow3 := box_kept HROW2.out hg3 (show w.heap.size + 1 ≠ b by omega)
  have hx3 := box_kept HX2.out hg3 (show w.heap.size ≠ b by omega)
  have hc8 : w3.cell? ⟨w.heap.size + 1, 8, none⟩ = some (.slice none 0 0) := by simp only [World.cell?, hrow3]; rw [List.getElem?_toArray]; exact rowI_get hl8
  have hf8 : w3.frozen? ⟨w.heap.size + 1, 8, none⟩ = false := frozen_of_row _ _ _ _ _ hrow3
  have hrow4 := heap_setCell_same w3 (w.heap.size + 1) 8 _ _ (.slice a3 n3 c3) hrow3
  rw [List.setIfInBounds_toArray, rowI_set hl8] at hrow4
  have hx4 : (w3.setCell ⟨w.heap.size + 1, 8, none⟩ (.slice a3 n3 c3)).heap[w.heap.size]? = _ := (heap_setCell_other w3 ⟨w.heap.size + 1, 8, none⟩ w.heap.size (.slice a3 n3 c3) (by simp)).trans hx3
  have g4 : w3.grownBy (w3.setCell ⟨w.heap.size + 1, 8, none⟩ (.slice a3 n3 c3)) (some (w.heap.size + 1)) := gb_setCell _ _ _
  have HX4 := Lib.hid hx4
  have HROW4 := Lib.hid hrow4
  have HG4 : Hid (w.grownBy (w3.setCell ⟨w.heap.size + 1, 8, none⟩ (.slice a3 n3 c3)) (some b)) := Lib.hid (gb_trans (gb_same HG2.out hg3) g4 (fun k hk => .inr (by have e := Option.some.inj hk; omega)))
  have HR4 := Lib.hid (hR3.far hbl HSL.out g4 (fun k hk => by have e := Option.some.inj hk; omega))
  have HO4 := Lib.hid (ho3.kept g4 (fun k hk e => by have e2 := Option.some.inj e; have := (ho3.lt k hk).1; omega))
  have HST := Lib.hid (rdM_state (fun e => (HS1.out e).2) HS2.out HT1.out HT2.out u1 u2)
  clear hrow3 hx3 hrow4 hx4 g4 hR3 hg3 ho3 u1 u2
  go_wp2_with (first | ((with_reducible refine is_load 39 24 2 ?_); refine ld_row 39 24 2 (w.heap.size + 1) _ _ rfl HROW4.out Try.underlying39 (by rw [List.size_toArray, rowI_len, hl8]; exact sz_msg) ?_) | ((with_reducible refine is_store 39 1 24 ?_); refine st_row 39 1 24 w.heap.size _ _ _ rfl rfl HX4.out (by rw [List.size_toArray, rowI_len, hl8]; exact sz_msg) (by rw [List.size_toArray, List.size_toArray, rowI_len, rowI_len, hl8]; rfl) (rowI_one ⟨_, _, _, rfl⟩) ?_; go_must (intro w5 hb5 hg5)))
  refine ret_row rfl w.heap.size _ _ rfl hb5 Try.underlying39 (by rw [List.size_toArray, rowI_len, hl8]; exact sz_msg) ?_
  have g5 : w.grownBy w5 (some b) := gb_trans HG4.out hg5 (fun k hk => .inr (by have e := Option.some.inj hk; omega))
  have hR5 := HR4.out.far hbl HSL.out hg5 (fun k hk => by have e := Option.some.inj hk; omega)
  have ho5 := (HO4.out.kept hg5 (fun k hk e => by have e2 := Option.some.inj e; have := (HO4.out.lt k hk).1; omega)).mono (show B ≤ w2.heap.size by omega)
  obtain ⟨r1, r2⟩ := HST.out
  cases f3 with
  | false =>
    rw [r1 rfl]
    exact ⟨_, rfl, ⟨_, _, hl8, rfl, _, _, _, rfl⟩, ⟨_, rfl, ho5⟩, hR5, g5⟩
  | true =>
    rw [r2 rfl]
    exact ⟨_, q3, rfl, ⟨_, _, hl8, rfl, _, _, _, rfl⟩, hR5, g5⟩


def KeepsG {α : Type} (G : Nat → α → Value → World → Prop) : Prop := ∀ B x v W W' row, G B x v W → W.grownBy W' row → (∀ k, row = some k → k < B ∨ W.heap.size ≤ k) → G B x v W'
def MonoG {α : Type} (G : Nat → α → Value → World → Prop) : Prop := ∀ B B' x v W, B' ≤ B → G B x v W → G B' x v W
theorem two_blocks {w w0 : World} {o o' : Obj} (h : w0 = (w.alloc o).alloc o') : w0.heap[w.heap.size]? = some o ∧ w0.heap[w.heap.size + 1]? = some o' ∧ w.grownBy w0 none := by
  subst h
  refine ⟨heap_alloc2_old w o o', heap_alloc2_new w o o', gb_same (gb_alloc _ _ _) (gb_alloc _ _ _)⟩
set_option maxRecDepth 100000 in
set_option maxHeartbeats 2000000 in
theorem valueS_Msg {α : Type} (b : Nat) (sl : Value) (bs : List UInt8) (p : Nat) (f : Bool) (w : World) (K : FuncId) (caps : Array Value) (good : Value → Prop) (G : Nat → α → Value → World → Prop) (r : Option (α × Nat)) (h : IsR w b sl bs p f)
    (hK : ∀ (args : Array Value) (w : World), (callFunc K args).run Try.prog w = .ok (.enter K args) w)
    (hgood : ∀ v, good v → ∃ cs : Array Value, v = .agg cs ∧ cs.size = 9 ∧ cs.toList.all (·.oneCell') = true) (hGk : KeepsG G) (hGm : MonoG G)
    (HP : f = false → ∀ W, w.grownBy W none → Calls Try.prog K caps W (PartsE W b sl bs good (G W.heap.size) r)) :
    Calls Try.prog 50 #[.pointer (some ⟨b, 0, none⟩), .func (.func K) #[] caps] w (ROutE w b sl bs p (.agg #[.int .i64 0, .int .i64 0, .int .i64 0, .int .i64 0, .int .i64 0, .int .i64 0, .int .i64 0, .int .i64 0, .slice none 0 0]) (G w.heap.size) (unl f r)) := by
  have c1 := h.c1
  have c2 := h.c2
  have hbl := h.lt
  have H := Lib.hid h
  cases f with
  | true =>
    clear h c1 HP hK
    go_enter Try.func50, Try.ntmps50
    go_wp2
    go_returns
    refine ⟨rfl, H.out.grown ?_, gb_none _ ?_⟩ <;> exact gb_of_below (by go_grown)
  | false =>
    have HQ := Lib.hid (HP rfl)
    have HGD := Lib.hid hgood
    have HGK := Lib.hid hGk
    have HGM := Lib.hid hGm
    have HSL := Lib.hid (fun hne => Rd.blk h.rd hne)
    rw [unl_f]
    clear h HP hgood hGk hGm
    go_enter Try.func50, Try.ntmps50
    go_wp2_with fail
    obtain ⟨w0, hw0⟩ : ∃ W, W = (w.alloc (Obj.cells #[.int .i64 0, .int .i64 0, .int .i64 0, .int .i64 0, .int .i64 0, .int .i64 0, .int .i64 0, .int .i64 0, .slice none 0 0] 39)).alloc (Obj.cells #[.int .i64 0, .int .i64 0, .int .i64 0, .int .i64 0, .int .i64 0, .int .i64 0, .int .i64 0, .int .i64 0, .slice none 0 0] 39) := ⟨_, rfl⟩
    obtain ⟨hb0, hb1, hg0⟩ := two_blocks hw0
    have hs0 : w0.heap.size = w.heap.size + 2 := by rw [hw0]; simp
    have HZ := Lib.hid hb1
    have HX := Lib.hid hb0
    have HG0 := Lib.hid hg0
    have HS0 := Lib.hid hs0
    rw [← hw0]
    clear hw0 hb0 hb1 hg0 hs0 c1 c2
    cases r with
    | none =>
      refine (HQ.out w0 HG0.out).mono ?_
      rintro e w1 ⟨v, q, rfl, hgd, hR1, hg1⟩
      obtain ⟨cs, rfl, hsz, hone⟩ := HGD.out _ hgd
      have HSZ := Lib.hid hsz
      have HONE := Lib.hid hone
      have HR1 := Lib.hid hR1
      have HG1 := Lib.hid hg1
      have hn1 : w.heap.size + 2 ≤ w1.heap.size := by rw [← HS0.out]; exact hg1.size
      have HZ1 := Lib.hid (box_kept HZ.out hg1 (show w.heap.size + 1 ≠ b by omega))
      have HX1 := Lib.hid (box_kept HX.out hg1 (show w.heap.size ≠ b by omega))
      clear hgd hsz hone hR1 hg1
      go_wp2_with (first | ((with_reducible refine is_store 39 7 22 ?_); refine st_row 39 7 22 w1.heap.size _ _ _ rfl rfl (heap_at_alloc _ _) (by rw [HSZ.out]; exact sz_msg) (by rw [HSZ.out]; rfl) HONE.out ?_; go_must (intro w3 hb3 hg3; have g13 : w1.grownBy w3 none := gb_new (gb_alloc _ _ _) hg3 (Nat.le_refl _); have HR3 := Lib.hid (HR1.out.grown g13); have d1 := HR3.out.c1; have d2 := HR3.out.c2; have f1 := HR3.out.fr 1; have HZ4 := Lib.hid (box_kept (blk_kept HZ1.out g13) (gb_setCell w3 ⟨b, 1, none⟩ (.int .i64 (p : Int))) (show w.heap.size + 1 ≠ b by omega)); have HX4 := Lib.hid (box_kept (blk_kept HX1.out g13) (gb_setCell w3 ⟨b, 1, none⟩ (.int .i64 (p : Int))) (show w.heap.size ≠ b by omega)); have HG3 := Lib.hid (gb_same (gb_none (some b) HG0.out) (gb_same HG1.out (gb_none _ g13))); clear hg3 hb3 g13)) | ((with_reducible refine is_load 39 31 5 ?_); refine ld_row 39 31 5 (w.heap.size + 1) _ _ rfl HZ4.out Try.underlying39 sz_msg ?_) | ((with_reducible refine is_store 39 4 31 ?_); refine st_row 39 4 31 w.heap.size _ _ _ rfl rfl HX4.out sz_msg rfl rfl ?_; go_must (intro w5 hb5 hg5)))
      refine ret_row rfl w.heap.size _ _ rfl hb5 Try.underlying39 sz_msg ?_
      have hR4 := HR3.out.back p H.out.le
      exact ⟨rfl, hR4.far hbl HSL.out hg5 (fun k hk => by have e := Option.some.inj hk; omega), gb_trans (gb_same HG3.out (gb_setCell _ _ _)) hg5 (fun k hk => .inr (by have e := Option.some.inj hk; omega))⟩
    | some r =>
      obtain ⟨x0, q⟩ := r
      refine (HQ.out w0 HG0.out).mono ?_
      rintro e w1 ⟨v, rfl, hgd, hG, hR1, hg1⟩
      obtain ⟨cs, rfl, hsz, hone⟩ := HGD.out _ hgd
      have HSZ := Lib.hid hsz
      have HONE := Lib.hid hone
      have HR1 := Lib.hid hR1
      have HG1 := Lib.hid hg1
      have HGG := Lib.hid hG
      have hn1 : w.heap.size + 2 ≤ w1.heap.size := by rw [← HS0.out]; exact hg1.size
      have HX1 := Lib.hid (box_kept HX.out hg1 (show w.heap.size ≠ b by omega))
      clear hgd hsz hone hR1 hg1 hG
      go_wp2_with (first | ((with_reducible refine is_store 39 7 22 ?_); refine st_row 39 7 22 w1.heap.size _ _ _ rfl rfl (heap_at_alloc _ _) (by rw [HSZ.out]; exact sz_msg) (by rw [HSZ.out]; rfl) HONE.out ?_; go_must (intro w3 hb3 hg3; have g13 : w1.grownBy w3 none := gb_new (gb_alloc _ _ _) hg3 (Nat.le_refl _); have HR3 := Lib.hid (HR1.out.grown g13); have d1 := HR3.out.c1; have d2 := HR3.out.c2; have f1 := HR3.out.fr 1; have HB3 := Lib.hid hb3; have HX3 := Lib.hid (blk_kept HX1.out g13); have HG3 := Lib.hid (gb_same (gb_none (some b) HG0.out) (gb_same HG1.out (gb_none _ g13))); have HGG3 := Lib.hid (HGK.out _ _ _ _ _ none HGG.out g13 (by simp)); clear hg3 hb3 g13)) | ((with_reducible refine is_load 39 32 7 ?_); refine ld_row 39 32 7 w1.heap.size _ _ rfl HB3.out Try.underlying39 (by rw [HSZ.out]; exact sz_msg) ?_) | ((with_reducible refine is_store 39 4 32 ?_); refine st_row 39 4 32 w.heap.size _ _ _ rfl rfl HX3.out (by rw [HSZ.out]; exact sz_msg) (by rw [HSZ.out]; rfl) HONE.out ?_; go_must (intro w5 hb5 hg5)))
      refine ret_row rfl w.heap.size _ _ rfl hb5 Try.underlying39 (by rw [HSZ.out]; exact sz_msg) ?_
      exact ⟨_, rfl, HGM.out _ _ _ _ _ (show w.heap.size ≤ w0.heap.size by rw [HS0.out]; omega) (HGK.out _ _ _ _ _ _ HGG3.out hg5 (fun k hk => .inl (by have e := Option.some.inj hk; rw [HS0.out]; omega))), HR3.out.far hbl HSL.out hg5 (fun k hk => by have e := Option.some.inj hk; omega), gb_trans HG3.out hg5 (fun k hk => .inr (by have e := Option.some.inj hk; omega))⟩


theorem keeps_ownM : KeepsG (fun B (x : List Int × List UInt8) v w => OwnM B x v w) := by
  rintro B x v W W' row ⟨dv, rfl, ho⟩ hg hr
  exact ⟨dv, rfl, ho.kept hg (fun k hk e => by have := ho.lt k hk; have := hr k e; omega)⟩
theorem mono_ownM : MonoG (fun B (x : List Int × List UInt8) v w => OwnM B x v w) := by
  rintro B B' x v W hB ⟨dv, rfl, ho⟩
  exact ⟨dv, rfl, ho.mono hB⟩
theorem good_row {n : Nat} : ∀ v, G_row n v → ∃ cs : Array Value, v = .agg cs ∧ cs.size = n + 1 ∧ cs.toList.all (·.oneCell') = true := by
  rintro v ⟨zs, dv, hl, rfl, hd⟩
  exact ⟨_, rfl, by rw [List.size_toArray, rowI_len, hl], rowI_one hd⟩
abbrev zmsg : Value := .agg #[.int .i64 0, .int .i64 0, .int .i64 0, .int .i64 0, .int .i64 0, .int .i64 0, .int .i64 0, .int .i64 0, .slice none 0 0]
theorem rdIs_len : ∀ {n : Nat} {bs : List UInt8} {p : Nat} {zs : List Int} {q : Nat}, rdIs n bs p = some (zs, q) → zs.length = n := by
  intro n
  induction n with
  | zero => intro bs p zs q h; simp only [rdIs, Option.some.injEq, Prod.mk.injEq] at h; rw [← h.1]; rfl
  | succ n ih =>
    intro bs p zs q h
    rw [rdIs] at h
    cases hr : rdIs n bs p with
    | none => rw [hr] at h; cases h
    | some r =>
      obtain ⟨ys, q1⟩ := r
      rw [hr] at h
      simp only [Option.map_eq_some_iff, Prod.mk.injEq] at h
      obtain ⟨y, _, rfl, _⟩ := h
      rw [List.length_append, ih hr]
      rfl
theorem rdM_len {bs : List UInt8} {p : Nat} {x : List Int × List UInt8} {q : Nat} (h : rdM bs p = some (x, q)) : x.1.length = 8 := by
  unfold rdM at h
  split at h
  · cases h
  · rename_i z1 q1 h1
    split at h
    · cases h
    · rename_i z2 q2 h2
      split at h
      · cases h
      · simp only [Option.some.injEq, Prod.mk.injEq] at h
        rw [← h.1, List.length_append, rdIs_len h1, rdIs_len h2]

set_option maxRecDepth 100000 in
set_option maxHeartbeats 2000000 in
theorem rmsg_any (b : Nat) (sl : Value) (bs : List UInt8) (p : Nat) (f : Bool) (w : World) (h : IsR w b sl bs p f) :
    Calls Try.prog 29 #[.pointer (some ⟨b, 0, none⟩)] w (ROutE w b sl bs p zmsg (fun x v w' => OwnM w.heap.size x v w') (unl f (rdM bs p))) := by
  have hm := hmf
  have hbl := h.lt
  obtain ⟨w0, hw0⟩ : ∃ W, W = (w.alloc (Obj.cells #[.pointer (some ⟨b, 0, none⟩)] 62)).alloc (Obj.cells #[.int .i64 0, .int .i64 0, .int .i64 0, .int .i64 0, .int .i64 0, .int .i64 0, .int .i64 0, .int .i64 0, .slice none 0 0] 39) := ⟨_, rfl⟩
  obtain ⟨hb0, hb1, hg0⟩ := two_blocks hw0
  have hs0 : w0.heap.size = w.heap.size + 2 := by rw [hw0]; simp
  have HV := Lib.hid (valueS_Msg b sl bs p f w0 51 #[.pointer (some ⟨w.heap.size, 0, none⟩)] (G_row 8) (fun B x v w => OwnM B x v w) (rdM bs p) (h.grown hg0) (fun _ _ => rfl) good_row keeps_ownM mono_ownM (fun hf W hW => by
    subst hf
    exact msg1 b sl bs p W W.heap.size w.heap.size (h.grown (gb_same hg0 hW)) (Nat.le_refl _) (blk_kept hb0 hW) (by omega)))
  have HB1 := Lib.hid hb1
  have HG0 := Lib.hid hg0
  have HS0 := Lib.hid hs0
  have HW := Lib.hid hw0
  have HSL := Lib.hid (fun hne => Rd.blk h.rd hne)
  have HLEN := Lib.hid (fun x q hh => @rdM_len bs p x q hh)
  clear h hb0 hb1 hg0 hs0 hw0
  go_enter Try.func29, Try.ntmps29
  go_wp2_with fail
  rw [← HW.out]
  refine HV.out.mono ?_
  rintro e w1 hr
  generalize hro : unl f (rdM bs p) = ro at *
  cases ro with
  | none =>
    obtain ⟨rfl, hR1, hg1⟩ := hr
    have HR1 := Lib.hid hR1
    have HG1 := Lib.hid hg1
    have HX1 := Lib.hid (box_kept HB1.out hg1 (show w.heap.size + 1 ≠ b by omega))
    have HRO := Lib.hid hro
    clear hR1 hg1 hro
    go_wp2_with ((with_reducible refine is_store 39 2 5 ?_); refine st_row 39 2 5 (w.heap.size + 1) _ _ _ rfl rfl HX1.out sz_msg rfl rfl ?_; go_must (intro w2 hb2 hg2))
    refine ret_row rfl (w.heap.size + 1) _ _ rfl hb2 Try.underlying39 sz_msg ?_
    rw [HRO.out]
    exact ⟨rfl, HR1.out.far hbl HSL.out hg2 (fun k hk => by have e := Option.some.inj hk; omega), gb_trans (gb_same (gb_none _ HG0.out) HG1.out) hg2 (fun k hk => .inr (by have e := Option.some.inj hk; omega))⟩
  | some r =>
    obtain ⟨x, q⟩ := r
    obtain ⟨v, rfl, ⟨dv, rfl, ho⟩, hR1, hg1⟩ := hr
    have hx8 : x.1.length = 8 := by
      cases f with
      | true => cases hro
      | false => exact HLEN.out _ _ hro
    obtain ⟨ad, cd, rfl⟩ := ho.rd.len
    have HR1 := Lib.hid hR1
    have HG1 := Lib.hid hg1
    have HO1 := Lib.hid ho
    have HC9 : Hid ((rowI x.1 (.slice ad x.2.length cd)).toArray.size = 9) := Lib.hid (by rw [List.size_toArray, rowI_len, hx8])
    have HX1 := Lib.hid (box_kept HB1.out hg1 (show w.heap.size + 1 ≠ b by omega))
    have HRO := Lib.hid hro
    clear hR1 hg1 hro ho hx8
    go_wp2_with ((with_reducible refine is_store 39 2 5 ?_); go_must (refine st_row 39 2 5 (w.heap.size + 1) _ (rowI x.1 (.slice ad x.2.length cd)).toArray _ rfl rfl HX1.out (by rw [HC9.out]; exact sz_msg) (by rw [HC9.out]; rfl) (rowI_one ⟨_, _, _, rfl⟩) ?_; intro w2 hb2 hg2))
    refine ret_row rfl (w.heap.size + 1) _ _ rfl hb2 Try.underlying39 (by rw [HC9.out]; exact sz_msg) ?_
    rw [HRO.out]
    refine ⟨_, rfl, ⟨_, rfl, (HO1.out.kept hg2 (fun k hk e => by have e2 := Option.some.inj e; have := HO1.out.lt k hk; have := HS0.out; omega)).mono (show w.heap.size ≤ w0.heap.size by rw [HS0.out]; omega)⟩, HR1.out.far hbl HSL.out hg2 (fun k hk => by have e := Option.some.inj hk; omega), gb_trans (gb_same (gb_none _ HG0.out) HG1.out) hg2 (fun k hk => .inr (by have e := Option.some.inj hk; omega))⟩
end Go.Proofs.Ytfldooljmjeaoaa
