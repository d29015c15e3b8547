/-
  The closure of (*wire.Reader).effect, and effect: the walks.
-/
import Derived.Test.YtgfopepopcacmaaEntR
import Derived.Laws.CopyRow
namespace Go.Proofs.Ytgfopepopcacmaa
open Go.RowKit

/-- the store of a whole struct into the middle of a row, as a law of the walk -/
theorem st_mid {ops : Array Oper} {rest : List Oper} {a : Act} {w : World} {Q : Exit → Act → World → Prop} (t : TypeId) (x v : Tmp) {ty : TypeId} {ps : String} {af : Array Edge}
    (g o : Nat) (old : List Value) (cs : List Value) (e : TypeId) (hx : a.eval (.tmp x) = .pointer (some ⟨g, o, none⟩)) (hv : a.eval (.tmp v) = .agg cs.toArray) (hg : w.heap[g]? = some (.cells old.toArray e (0, 0)))
    (hi : (Try.prog.info? t).map (·.size) = some cs.length) (ho : o + cs.length ≤ old.length) (h1 : ∀ v ∈ cs, v.oneCell' = true)
    (h : ∀ w', w'.heap[g]? = some (.cells (old.take o ++ cs ++ old.drop (o + cs.length)).toArray e (0, 0)) → w.grownBy w' (some g) → wpList Try.prog ops Q rest a w') :
    wpList Try.prog ops Q ({ dst := none, op := .store t (.tmp x) (.tmp v), type := ty, pos := ps, after := af, guard := none } :: rest) a w := by
  have hs := run_storeCells_at (P := Try.prog) g o e cs 0 old.toArray w hg (by simpa using ho) h1
  have hst : (storeVar t ⟨g, o, none⟩ (.agg cs.toArray)).run Try.prog w = .ok () (w.setRow g (old.take o ++ cs ++ old.drop (o + cs.length)).toArray) := by
    cases hq : Try.prog.info? t with
    | none => simp [hq] at hi
    | some i =>
      have hsz : cs.length = i.size := by simp [hq] at hi; omega
      simp only [Nat.add_zero] at hs
      simp [storeVar, sizeOf, typeInfo, hq, Value.cells, hsz] at hs ⊢
      exact hs
  refine wpList_plain rfl fun _ hK => ?_
  unfold Oper.wp execOp
  simp only [hx, hv, Instr.storeAt, Instr.sureAddr, Sem.run_bind, Sem.run_pure, Result.andThen_ok, hst]
  exact hK _ _ (h _ (setRow_heap w g _ _ e _ hg) (gb_setRow w g _))

theorem blk_kept' {w w1 : World} {k : Nat} {o : Obj} {row : Option Nat} (h : w.heap[k]? = some o) (hg : w.grownBy w1 row) (hne : row ≠ some k) : w1.heap[k]? = some o := by
  rw [hg.block k (Array.getElem?_eq_some_iff.1 h).1 (fun e => hne e.symm)]; exact h

abbrev EffT := List Int × (List Int × List UInt8) × List UInt8
def rdE (bs : List UInt8) (p : Nat) : Option (EffT × Nat) :=
  match rdIs 5 bs p with
  | none => none
  | some (z, q1) => match rdM bs q1 with
    | none => none
    | some (m, q2) => match rdBytes 1536 bs q2 with
      | none => none
      | some (l, q3) => some ((z, m, l), q3)

def rowE (zs : List Int) (mv dv : Value) : List Value := ivs zs ++ [mv, dv]
def IsSl (v : Value) : Prop := ∃ a n c, v = .slice a n c
def G_rowE (v : Value) : Prop := ∃ zs mv dv, zs.length = 13 ∧ v = .agg (rowE zs mv dv).toArray ∧ IsSl mv ∧ IsSl dv
def OwnE (B : Nat) (x : EffT) (v : Value) (w : World) : Prop := ∃ mv dv, v = .agg (rowE (x.1 ++ x.2.1.1) mv dv).toArray ∧ Own w B mv x.2.1.2 ∧ Own w B dv x.2.2
theorem rowE_len (zs : List Int) (mv dv : Value) : (rowE zs mv dv).length = zs.length + 2 := by simp [rowE, ivs]
theorem rowE_ones {zs : List Int} {mv dv : Value} (hm : IsSl mv) (hd : IsSl dv) : ∀ v ∈ rowE zs mv dv, v.oneCell' = true := by
  obtain ⟨_, _, _, rfl⟩ := hm
  obtain ⟨_, _, _, rfl⟩ := hd
  intro v hv
  rcases List.mem_append.1 hv with h | h
  · simp only [ivs, List.mem_map] at h
    obtain ⟨z, _, rfl⟩ := h
    rfl
  · simp at h
    rcases h with rfl | rfl <;> rfl
theorem rowE_one {zs : List Int} {mv dv : Value} (hm : IsSl mv) (hd : IsSl dv) : (rowE zs mv dv).toArray.toList.all (·.oneCell') = true := by
  rw [List.toList_toArray, List.all_eq_true]
  exact rowE_ones hm hd
theorem rowI_ones {zs : List Int} {dv : Value} (hd : IsSl dv) : ∀ v ∈ rowI zs dv, v.oneCell' = true := by
  have := rowI_one (zs := zs) hd
  rwa [List.toList_toArray, List.all_eq_true] at this
theorem rowE_int {zs : List Int} {mv dv : Value} {j : Nat} (h : j < zs.length) : ∃ z, (rowE zs mv dv)[j]? = some (.int .i64 z) := by
  refine ⟨zs[j], ?_⟩
  unfold rowE ivs
  rw [List.getElem?_append_left (by simpa using h)]
  simp [h]
theorem rowE_get {zs : List Int} {mv dv : Value} (h : zs.length = 13) : (rowE zs mv dv)[14]? = some dv := by
  unfold rowE ivs
  rw [List.getElem?_append_right (by simp [h])]
  simp [h]
theorem rowE_set {zs : List Int} {mv dv dv' : Value} (h : zs.length = 13) : (rowE zs mv dv).set 14 dv' = rowE zs mv dv' := by
  unfold rowE ivs
  rw [List.set_append_right _ _ (by simp [h])]
  simp [h]
theorem fill5 {zs : List Int} (h1 : zs.length = 5) (mv dv : Value) : fillRow 0 (rowE [0, 0, 0, 0, 0, 0, 0, 0, 0, 0, 0, 0, 0] mv dv) zs = rowE (zs ++ [0, 0, 0, 0, 0, 0, 0, 0]) mv dv := by
  match zs, h1 with
  | [z0, z1, z2, z3, z4], _ => rfl
theorem mid5 {zs ys : List Int} (h1 : zs.length = 5) (h2 : ys.length = 8) (mv mv' dv : Value) :
    (rowE (zs ++ [0, 0, 0, 0, 0, 0, 0, 0]) mv dv).take 5 ++ rowI ys mv' ++ (rowE (zs ++ [0, 0, 0, 0, 0, 0, 0, 0]) mv dv).drop (5 + (rowI ys mv').length) = rowE (zs ++ ys) mv' dv := by
  rw [rowI_len, h2]
  match zs, h1 with
  | [z0, z1, z2, z3, z4], _ => simp [rowE, rowI, ivs]

def MsgU (w : World) (b : Nat) (sl : Value) (bs : List UInt8) (p : Nat) (f : Bool) (e : Ending) (w' : World) : Prop :=
  ∃ (zs : List Int) (mv : Value) (l : List UInt8) (q : Nat) (g : Bool), e = .returned (.agg (rowI zs mv).toArray) ∧ zs.length = 8 ∧ IsSl mv ∧ Own w' w.heap.size mv l ∧ IsR w' b sl bs q g ∧ w.grownBy w' (some b) ∧ (g = false → f = false ∧ rdM bs p = some ((zs, l), q)) ∧ (g = true → unl f (rdM bs p) = none)
theorem rmsg_u (b : Nat) (sl : Value) (bs : List UInt8) (p : Nat) (f : Bool) (w : World) (h : IsR w b sl bs p f) :
    Calls Try.prog 51 #[.pointer (some ⟨b, 0, none⟩)] w (MsgU w b sl bs p f) := by
  refine (rmsg_any b sl bs p f w h).mono fun e w' hr => ?_
  cases f with
  | true =>
    obtain ⟨h1, h2, h3⟩ := hr
    exact ⟨[0, 0, 0, 0, 0, 0, 0, 0], .slice none 0 0, [], p, true, h1, rfl, ⟨_, _, _, rfl⟩, Own.nil _ _, h2, h3, (fun e => by cases e), fun _ => rfl⟩
  | false =>
    cases hd : rdM bs p with
    | none =>
      rw [unl_f, hd] at hr
      obtain ⟨h1, h2, h3⟩ := hr
      exact ⟨[0, 0, 0, 0, 0, 0, 0, 0], .slice none 0 0, [], p, true, h1, rfl, ⟨_, _, _, rfl⟩, Own.nil _ _, h2, h3, (fun e => by cases e), (fun _ => by rw [unl_f, hd])⟩
    | some r =>
      obtain ⟨⟨zs, l⟩, q⟩ := r
      rw [unl_f, hd] at hr
      obtain ⟨v, h1, ⟨dv, rfl, h2⟩, h3, h4⟩ := hr
      obtain ⟨a, c, rfl⟩ := h2.rd.len
      exact ⟨zs, _, l, q, false, h1, rdM_len hd, ⟨_, _, _, rfl⟩, h2, h3, h4, fun _ => ⟨rfl, hd⟩, (fun e => by cases e)⟩

theorem rdE_state {bs : List UInt8} {p q1 q2 q3 : Nat} {z : List Int} {zm : List Int} {lm l : List UInt8} {f1 f2 f3 : Bool}
    (a1 : f1 = false → rdIs 5 bs p = some (z, q1)) (a2 : f1 = true → unl false (rdIs 5 bs p) = none)
    (b1 : f2 = false → f1 = false ∧ rdM bs q1 = some ((zm, lm), q2)) (b2 : f2 = true → unl f1 (rdM bs q1) = none)
    (c1 : f3 = false → f2 = false ∧ rdBytes 1536 bs q2 = some (l, q3)) (c2 : f3 = true → unl f2 (rdBytes 1536 bs q2) = none) :
    (f3 = false → rdE bs p = some ((z, (zm, lm), l), q3)) ∧ (f3 = true → rdE bs p = none) := by
  unfold rdE
  refine ⟨fun e => ?_, fun e => ?_⟩
  · obtain ⟨e2, h3⟩ := c1 e
    obtain ⟨e1, h2⟩ := b1 e2
    rw [a1 e1]
    simp only [h2, h3]
  · cases f1 with
    | true => have := a2 rfl; rw [unl_f] at this; rw [this]
    | false =>
      rw [a1 rfl]
      cases f2 with
      | true => have := b2 rfl; rw [unl_f] at this; simp only [this]
      | false => have := c2 e; rw [unl_f] at this; simp only [(b1 rfl).2, this]

theorem sz_msg_at : (Try.prog.info? 57).map (·.size) = some 9 := sz_msg

set_option maxRecDepth 100000 in
set_option maxHeartbeats 4000000 in
theorem eff1 (b : Nat) (sl : Value) (bs : List UInt8) (p : Nat) (w : World) (B k0 : Nat) (h : IsR w b sl bs p false) (hB : B ≤ w.heap.size)
    (b0 : w.heap[k0]? = some (.cells #[.pointer (some ⟨b, 0, none⟩)] 25 (0, 0))) (n0 : k0 ≠ b) :
    Calls Try.prog 101 #[.pointer (some ⟨k0, 0, none⟩)] w (PartsE w b sl bs G_rowE (OwnE B) (rdE bs p)) := by
  have hk0 := lt_of_block b0
  have hbl := h.lt
  obtain ⟨wa, hwa⟩ : ∃ W, W = (w.alloc (Obj.cells (rowE [0, 0, 0, 0, 0, 0, 0, 0, 0, 0, 0, 0, 0] (.slice none 0 0) (.slice none 0 0)).toArray 75)).alloc (Obj.cells (rowE [0, 0, 0, 0, 0, 0, 0, 0, 0, 0, 0, 0, 0] (.slice none 0 0) (.slice none 0 0)).toArray 75) := ⟨_, rfl⟩
  obtain ⟨r1, r2, ga⟩ := two_blocks hwa
  have sa : wa.heap.size = w.heap.size + 2 := by rw [hwa]; simp
  have HRA := Lib.hid (h.grown ga)
  have HB0 := Lib.hid b0
  have HSL := Lib.hid (fun hne => Rd.blk h.rd hne)
  have c0 := cell_of_one b0
  have hmx : (5 : Nat) ≤ maxLen := by simp only [maxLen]; omega
  obtain ⟨wb, hwb⟩ : ∃ W, W = wa.alloc (Obj.cells #[.pointer (some ⟨w.heap.size + 1, 0, none⟩), .pointer (some ⟨w.heap.size + 1, 1, none⟩), .pointer (some ⟨w.heap.size + 1, 2, none⟩), .pointer (some ⟨w.heap.size + 1, 3, none⟩), .pointer (some ⟨w.heap.size + 1, 4, none⟩)] 116) := ⟨_, rfl⟩
  have hpb : RdL wb (.slice (some ⟨w.heap.size + 2, 0, none⟩) 5 5) (ptrs (w.heap.size + 1) 0 5) := by rw [hwb, ← sa]; exact RdL.lit wa [.pointer (some ⟨w.heap.size + 1, 0, none⟩), .pointer (some ⟨w.heap.size + 1, 1, none⟩), .pointer (some ⟨w.heap.size + 1, 2, none⟩), .pointer (some ⟨w.heap.size + 1, 3, none⟩), .pointer (some ⟨w.heap.size + 1, 4, none⟩)] 116 hmx 5 rfl
  have gab : wa.grownBy wb none := by rw [hwb]; exact gb_alloc _ _ _
  have HF := Lib.hid (fill_any w b sl bs p false (.slice (some ⟨w.heap.size + 2, 0, none⟩) 5 5) (w.heap.size + 1) 0 5 (rowE [0, 0, 0, 0, 0, 0, 0, 0, 0, 0, 0, 0, 0] (.slice none 0 0) (.slice none 0 0)) 75 wb (HRA.out.grown gab) hpb (blk_kept r2 gab) (by decide) (by omega) (fun k hk => by have e := own_blk hk; omega) hbl HSL.out (gb_none _ (gb_same ga gab)) (by omega) (by omega) (fun j hj => rowE_int (by simp; omega)))
  have HRB1 := Lib.hid (blk_kept r1 gab)
  have HSB : Hid (wb.heap.size = w.heap.size + 3) := Lib.hid (by rw [hwb]; simp [sa])
  have HWB : Hid (wb = ((w.alloc (Obj.cells #[.int .i64 0, .int .i64 0, .int .i64 0, .int .i64 0, .int .i64 0, .int .i64 0, .int .i64 0, .int .i64 0, .int .i64 0, .int .i64 0, .int .i64 0, .int .i64 0, .int .i64 0, .slice none 0 0, .slice none 0 0] 75)).alloc (Obj.cells #[.int .i64 0, .int .i64 0, .int .i64 0, .int .i64 0, .int .i64 0, .int .i64 0, .int .i64 0, .int .i64 0, .int .i64 0, .int .i64 0, .int .i64 0, .int .i64 0, .int .i64 0, .slice none 0 0, .slice none 0 0] 75)).alloc (Obj.cells #[.pointer (some ⟨w.heap.size + 1, 0, none⟩), .pointer (some ⟨w.heap.size + 1, 1, none⟩), .pointer (some ⟨w.heap.size + 1, 2, none⟩), .pointer (some ⟨w.heap.size + 1, 3, none⟩), .pointer (some ⟨w.heap.size + 1, 4, none⟩)] 116)) := Lib.hid (by rw [hwb, hwa]; rfl)
  clear hwb hpb gab hwa r1 r2 ga sa h b0
  go_enter Try.func101, Try.ntmps101
  go_wp2_with fail
  rw [← HWB.out]
  clear c0
  refine HF.out.mono ?_
  rintro e w1 ⟨rfl, z1, q1, f1, hrow1, hg1, hR1, s1, s2, hl1, _, hsz1, hk1⟩
  rw [fill5 hl1] at hrow1
  have d0 := cell_of_one (box_kept HB0.out hg1 n0)
  have hs1 : w.heap.size + 3 ≤ w1.heap.size := by rw [← HSB.out]; exact hsz1
  have HS1 := Lib.hid s1
  have HS2 := Lib.hid s2
  have HL1 := Lib.hid hl1
  have HROW1 := Lib.hid hrow1
  have HG1 := Lib.hid hg1
  have HX1 : Hid (w1.heap[w.heap.size]? = some (.cells (rowE [0, 0, 0, 0, 0, 0, 0, 0, 0, 0, 0, 0, 0] (.slice none 0 0) (.slice none 0 0)).toArray 75 (0, 0))) := Lib.hid (by rw [hk1 _ (by rw [HSB.out]; omega) (by omega) (by omega)]; exact HRB1.out)
  have HMU := Lib.hid (rmsg_u b sl bs q1 f1 w1 hR1)
  clear s1 s2 hl1 hrow1 hg1 hR1 hk1 hsz1 HF HRB1 HWB HRA
  go_wp2_with fail
  refine HMU.out.mono ?_
  rintro e w2 ⟨z2, mv, lm, q2, f2, rfl, hl2, hmv, hom, hR2, hg2, t1, t2⟩
  have HT1 := Lib.hid t1
  have HT2 := Lib.hid t2
  have HL2 := Lib.hid hl2
  have HMV := Lib.hid hmv
  have HOM := Lib.hid hom
  have HR2 := Lib.hid hR2
  have HG2 := Lib.hid hg2
  have HROW2 := Lib.hid (box_kept HROW1.out hg2 (show w.heap.size + 1 ≠ b by omega))
  have HX2 := Lib.hid (box_kept HX1.out hg2 (show w.heap.size ≠ b by omega))
  have hs2 : w1.heap.size ≤ w2.heap.size := hg2.size
  clear t1 t2 hl2 hmv hom hR2 hg2 HMU d0
  go_wp2_with ((with_reducible refine is_store 57 17 16 ?_); go_must (refine st_mid 57 17 16 (w.heap.size + 1) 5 _ (rowI z2 mv) _ rfl rfl HROW2.out (by rw [rowI_len, HL2.out]; exact sz_msg) (by rw [rowI_len, rowE_len, List.length_append, HL1.out, HL2.out]; decide) (rowI_ones HMV.out) ?_; intro w3 hrow3 hg3; rw [mid5 HL1.out HL2.out] at hrow3; have HROW3 := Lib.hid hrow3; have HR3 := Lib.hid (HR2.out.far hbl HSL.out hg3 (fun k hk => by have e := Option.some.inj hk; omega)); have HX3 := Lib.hid (blk_kept' HX2.out hg3 (fun e => by have e2 := Option.some.inj e; omega)); have HG3 : Hid (w.grownBy w3 (some b)) := Lib.hid (gb_trans (gb_same HG1.out HG2.out) hg3 (fun k hk => .inr (by have e := Option.some.inj hk; omega))); have HOM3 := Lib.hid (HOM.out.kept hg3 (fun k hk e => by have e2 := Option.some.inj e; have := (HOM.out.lt k hk).1; omega)); have d0 := cell_of_one (box_kept HB0.out HG3.out n0); have hs3 : w2.heap.size ≤ w3.heap.size := hg3.size; clear hrow3 hg3))
  have HBY := Lib.hid (bytes_u b sl bs q2 f2 w3 1536 w3.heap.size HR3.out (Nat.le_refl _) (by omega))
  clear HR2 HG2 HROW2 HX2 HOM HR3
  refine HBY.out.mono ?_
  rintro e w4 ⟨a4, n4, c4, l, q3, f3, rfl, ho4, hR4, hg4, u1, u2⟩
  have hl13 : (z1 ++ z2).length = 13 := by rw [List.length_append, HL1.out, HL2.out]
  have hrow4 := box_kept HROW3.out hg4 (show w.heap.size + 1 ≠ b by omega)
  have hx4 := box_kept HX3.out hg4 (show w.heap.size ≠ b by omega)
  have hc14 : w4.cell? ⟨w.heap.size + 1, 14, none⟩ = some (.slice none 0 0) := by simp only [World.cell?, hrow4]; rw [List.getElem?_toArray]; exact rowE_get hl13
  have hf14 : w4.frozen? ⟨w.heap.size + 1, 14, none⟩ = false := frozen_of_row _ _ _ _ _ hrow4
  have hrow5 := heap_setCell_same w4 (w.heap.size + 1) 14 _ _ (.slice a4 n4 c4) hrow4
  rw [List.setIfInBounds_toArray, rowE_set hl13] at hrow5
  have hx5 : (w4.setCell ⟨w.heap.size + 1, 14, none⟩ (.slice a4 n4 c4)).heap[w.heap.size]? = _ := (heap_setCell_other w4 ⟨w.heap.size + 1, 14, none⟩ w.heap.size (.slice a4 n4 c4) (by simp)).trans hx4
  have g5 : w4.grownBy (w4.setCell ⟨w.heap.size + 1, 14, none⟩ (.slice a4 n4 c4)) (some (w.heap.size + 1)) := gb_setCell _ _ _
  have HX5 := Lib.hid hx5
  have HROW5 := Lib.hid hrow5
  have HG5 : Hid (w.grownBy (w4.setCell ⟨w.heap.size + 1, 14, none⟩ (.slice a4 n4 c4)) (some b)) := Lib.hid (gb_trans (gb_same HG3.out hg4) g5 (fun k hk => .inr (by have e := Option.some.inj hk; omega)))
  have HR5 := Lib.hid (hR4.far hbl HSL.out g5 (fun k hk => by have e := Option.some.inj hk; omega))
  have HO5 := Lib.hid (ho4.kept g5 (fun k hk e => by have e2 := Option.some.inj e; have := (ho4.lt k hk).1; omega))
  have HOM5 := Lib.hid ((HOM3.out.kept hg4 (fun k hk e => by have e2 := Option.some.inj e; have := (HOM3.out.lt k hk).1; omega)).kept g5 (fun k hk e => by have e2 := Option.some.inj e; have := (HOM3.out.lt k hk).1; omega))
  have HST := Lib.hid (rdE_state (fun e => (HS1.out e).2) HS2.out HT1.out HT2.out u1 u2)
  have HC15 : Hid ((rowE (z1 ++ z2) mv (.slice a4 n4 c4)).toArray.size = 15) := Lib.hid (by rw [List.size_toArray, rowE_len, hl13])
  clear hrow4 hx4 hrow5 hx5 g5 hR4 hg4 ho4 u1 u2
  go_wp2_with (first | ((with_reducible refine is_load 75 21 2 ?_); go_must (refine ld_row 75 21 2 (w.heap.size + 1) _ _ rfl HROW5.out Try.underlying75 (by rw [HC15.out]; exact sz_eff) ?_)) | ((with_reducible refine is_store 75 1 21 ?_); go_must (refine st_row 75 1 21 w.heap.size _ (rowE (z1 ++ z2) mv (.slice a4 n4 c4)).toArray _ rfl rfl HX5.out (by rw [HC15.out]; exact sz_eff) (by rw [HC15.out]; rfl) (rowE_one HMV.out ⟨_, _, _, rfl⟩) ?_; intro w6 hb6 hg6)))
  refine ret_row rfl w.heap.size _ _ rfl hb6 Try.underlying75 (by rw [HC15.out]; exact sz_eff) ?_
  have g6 : w.grownBy w6 (some b) := gb_trans HG5.out hg6 (fun k hk => .inr (by have e := Option.some.inj hk; omega))
  have hR6 := HR5.out.far hbl HSL.out hg6 (fun k hk => by have e := Option.some.inj hk; omega)
  have ho6 := (HO5.out.kept hg6 (fun k hk e => by have e2 := Option.some.inj e; have := (HO5.out.lt k hk).1; omega)).mono (show B ≤ w3.heap.size by omega)
  have hm6 := (HOM5.out.kept hg6 (fun k hk e => by have e2 := Option.some.inj e; have := (HOM5.out.lt k hk).1; omega)).mono (show B ≤ w1.heap.size by omega)
  obtain ⟨r1, r2⟩ := HST.out
  cases f3 with
  | false =>
    rw [r1 rfl]
    exact ⟨_, rfl, ⟨_, _, _, hl13, rfl, HMV.out, _, _, _, rfl⟩, ⟨_, _, rfl, hm6, ho6⟩, hR6, g6⟩
  | true =>
    rw [r2 rfl]
    exact ⟨_, q3, rfl, ⟨_, _, _, hl13, rfl, HMV.out, _, _, _, rfl⟩, hR6, g6⟩
end Go.Proofs.Ytgfopepopcacmaa
