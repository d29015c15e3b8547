/-
  The reference's reader: Msg: the walk.
-/
import Derived.Test.YtfldooljmjeaoaaRMDec
import Derived.Deep.CutBlock
namespace Go.Proofs.Ytfldooljmjeaoaa
open Go.RowKit Go.Shelf

theorem rdIs_add (a : Nat) (bs : List UInt8) (p : Nat) : ∀ b : Nat, rdIs (a + b) bs p = match rdIs a bs p with | none => none | some (z1, q1) => (rdIs b bs q1).map fun r => (z1 ++ r.1, r.2)
  | 0 => by
    cases h : rdIs a bs p with
    | none => simp
    | some r => obtain ⟨z1, q1⟩ := r; simp [rdIs]
  | b + 1 => by
    have ih := rdIs_add a bs p b
    show rdIs (a + b + 1) bs p = _
    rw [rdIs, ih]
    cases h : rdIs a bs p with
    | none => rfl
    | some r =>
      obtain ⟨z1, q1⟩ := r
      simp only
      cases h2 : rdIs b bs q1 with
      | none => simp [rdIs, h2]
      | some r2 =>
        obtain ⟨z2, q2⟩ := r2
        simp only [Option.map_some, rdIs, h2]
        cases rdInt bs q2 with
        | none => rfl
        | some r3 => simp
theorem rdM_8 (bs : List UInt8) (p : Nat) : rdM bs p = match rdIs 8 bs p with | none => none | some (zs, q) => (rdBytes 1536 bs q).map fun r => ((zs, r.1), r.2) := by
  have h := rdIs_add 4 bs p 4
  rw [show (4 : Nat) + 4 = 8 from rfl] at h
  rw [h]
  unfold rdM
  cases rdIs 4 bs p with
  | none => rfl
  | some r =>
    obtain ⟨z1, q1⟩ := r
    simp only
    cases rdIs 4 bs q1 with
    | none => rfl
    | some r2 =>
      obtain ⟨z2, q2⟩ := r2
      simp only [Option.map_some]
      cases rdBytes 1536 bs q2 with
      | none => rfl
      | some r3 => rfl
/-- where the reader stands behind so many integers -/
def StI (bs : List UInt8) (p0 : Nat) (f0 : Bool) (i : Nat) (zs : List Int) (p : Nat) (f : Bool) : Prop :=
  (f = false ∧ f0 = false ∧ rdIs i bs p0 = some (zs, p)) ∨ (f = true ∧ (f0 = true ∨ rdIs i bs p0 = none))
theorem StI.next {bs : List UInt8} {p0 : Nat} {f0 : Bool} {i : Nat} {zs : List Int} {p : Nat} {f : Bool} (h : StI bs p0 f0 i zs p f) :
    StI bs p0 f0 (i + 1) (zs ++ [iV (unl f (rdInt bs p))]) (iQ p (unl f (rdInt bs p))) (unl f (rdInt bs p)).isNone := by
  rcases h with ⟨rfl, h2, h3⟩ | ⟨rfl, h2⟩
  · rw [unl_f]
    cases hx : rdInt bs p with
    | none => exact .inr ⟨rfl, .inr (by rw [rdIs, h3]; simp only; rw [hx]; rfl)⟩
    | some r => exact .inl ⟨rfl, h2, by rw [rdIs, h3]; simp only; rw [hx]; rfl⟩
  · rw [unl_t]
    refine .inr ⟨rfl, ?_⟩
    rcases h2 with h2 | h2
    · exact .inl h2
    · exact .inr (by rw [rdIs, h2])
/-- what the reference's Msg gives -/
def GotMQ (o : Option (Mg × Nat)) (b : Nat) (sl : Value) (bs : List UInt8) (p : Nat) (w : World) (e : Ending) (w' : World) : Prop :=
  ∃ dv, e = .returned (.agg ((gMg o).row dv)) ∧ Own w' w.heap.size dv (gMg o).z ∧ IsQ w' b sl bs (gPos p o) o.isNone ∧ w.grownBy w' (some b)
set_option maxRecDepth 100000 in
set_option maxHeartbeats 4000000 in
theorem qMsg_any (b : Nat) (sl : Value) (bs : List UInt8) (p : Nat) (f : Bool) (w : World) (h : IsQ w b sl bs p f) (hsl : ∀ k, sl.ownBlock = some k → k < w.heap.size) :
    Calls Try.prog 32 #[.pointer (some ⟨b, 0, none⟩)] w (GotMQ (unl f (rdG bs p)) b sl bs p w) := by
  have HBL := Lib.hid h.lt
  have HPL := Lib.hid h.le
  have HSL := Lib.hid hsl
  have h1 := h.grown (gb_alloc w (.cells zrowM 39) none)
  have c1 := h1.c1
  have HZR := Lib.hid (heap_at_alloc w (.cells zrowM 39))
  have HG0 := Lib.hid (gb_alloc w (.cells zrowM 39) (some b))
  have HQ0 := Lib.hid h1
  unfold zrowM at c1 HZR HG0 HQ0
  have HST0 : Hid (StI bs p f 0 [] p f) := Lib.hid (by cases f with
    | false => exact .inl ⟨rfl, rfl, rfl⟩
    | true => exact .inr ⟨rfl, .inl rfl⟩)
  clear h h1 hsl
  go_enter Try.func32, Try.ntmps32
  go_wp2_with fail
  generalize w.alloc (.cells #[.int .i64 0, .int .i64 0, .int .i64 0, .int .i64 0, .int .i64 0, .int .i64 0, .int .i64 0, .int .i64 0, .slice none 0 0] 39) = v0 at *
  clear c1
  have HI1 := Lib.hid (qInt_any b sl bs p f v0 HQ0.out)
  have hst1 := HST0.out.next
  generalize iV (unl f (rdInt bs p)) = x0 at HI1 hst1
  generalize iQ p (unl f (rdInt bs p)) = p1 at HI1 hst1
  generalize (unl f (rdInt bs p)).isNone = f1 at HI1 hst1
  have HST1 := Lib.hid hst1
  clear hst1
  refine HI1.out.mono ?_
  rintro e v1 ⟨rfl, hq1, hg1⟩
  have HQ1 := Lib.hid hq1
  have HG1 := Lib.hid (gb_same HG0.out hg1)
  have HZR1 := Lib.hid (blk_kept' HZR.out hg1 (by have := HBL.out; simp; omega))
  clear hq1 hg1
  have HI2 := Lib.hid (qInt_any b sl bs p1 f1 v1 HQ1.out)
  have hst2 := HST1.out.next
  generalize iV (unl f1 (rdInt bs p1)) = x1 at HI2 hst2
  generalize iQ p1 (unl f1 (rdInt bs p1)) = p2 at HI2 hst2
  generalize (unl f1 (rdInt bs p1)).isNone = f2 at HI2 hst2
  have HST2 := Lib.hid hst2
  clear hst2
  go_wp2_with fail
  refine HI2.out.mono ?_
  rintro e v2 ⟨rfl, hq2, hg2⟩
  have HQ2 := Lib.hid hq2
  have HG2 := Lib.hid (gb_same HG1.out hg2)
  have HZR2 := Lib.hid (blk_kept' HZR1.out hg2 (by have := HBL.out; simp; omega))
  clear hq2 hg2
  have HI3 := Lib.hid (qInt_any b sl bs p2 f2 v2 HQ2.out)
  have hst3 := HST2.out.next
  generalize iV (unl f2 (rdInt bs p2)) = x2 at HI3 hst3
  generalize iQ p2 (unl f2 (rdInt bs p2)) = p3 at HI3 hst3
  generalize (unl f2 (rdInt bs p2)).isNone = f3 at HI3 hst3
  have HST3 := Lib.hid hst3
  clear hst3
  go_wp2_with fail
  refine HI3.out.mono ?_
  rintro e v3 ⟨rfl, hq3, hg3⟩
  have HQ3 := Lib.hid hq3
  have HG3 := Lib.hid (gb_same HG2.out hg3)
  have HZR3 := Lib.hid (blk_kept' HZR2.out hg3 (by have := HBL.out; simp; omega))
  clear hq3 hg3
  have HI4 := Lib.hid (qInt_any b sl bs p3 f3 v3 HQ3.out)
  have hst4 := HST3.out.next
  generalize iV (unl f3 (rdInt bs p3)) = x3 at HI4 hst4
  generalize iQ p3 (unl f3 (rdInt bs p3)) = p4 at HI4 hst4
  generalize (unl f3 (rdInt bs p3)).isNone = f4 at HI4 hst4
  have HST4 := Lib.hid hst4
  clear hst4
  go_wp2_with fail
  refine HI4.out.mono ?_
  rintro e v4 ⟨rfl, hq4, hg4⟩
  have HQ4 := Lib.hid hq4
  have HG4 := Lib.hid (gb_same HG3.out hg4)
  have HZR4 := Lib.hid (blk_kept' HZR3.out hg4 (by have := HBL.out; simp; omega))
  clear hq4 hg4
  have hgx := gb_alloc v4 (.cells #[.int .i64 x0, .int .i64 x1, .int .i64 x2, .int .i64 x3, .int .i64 0, .int .i64 0, .int .i64 0, .int .i64 0, .slice none 0 0] 39) none
  have hbx := heap_at_alloc v4 (.cells #[.int .i64 x0, .int .i64 x1, .int .i64 x2, .int .i64 x3, .int .i64 0, .int .i64 0, .int .i64 0, .int .i64 0, .slice none 0 0] 39)
  have HV4 : Hid (w.heap.size < v4.heap.size ∧ b < v4.heap.size) := Lib.hid ⟨lt_of_blk HZR4.out, HQ4.out.lt⟩
  go_upto_block 0 with fail
  generalize hb4 : v4.heap.size = b4 at *
  generalize v4.alloc (.cells #[.int .i64 x0, .int .i64 x1, .int .i64 x2, .int .i64 x3, .int .i64 0, .int .i64 0, .int .i64 0, .int .i64 0, .slice none 0 0] 39) = v5 at *
  have HB5 := Lib.hid hbx
  have HG5 := Lib.hid (gb_trans0 HG4.out hgx)
  have HQ5 := Lib.hid (HQ4.out.grown hgx)
  have HZR5 := Lib.hid (blk_kept HZR4.out hgx)
  clear hgx hbx hb4
  go_wp2_with fail
  go_loopw [5] (fun i wr => ∃ (k pk : Nat) (fk : Bool) (y0 y1 y2 y3 : Int), k ≤ 4 ∧ i = .int .i64 k ∧ Hid (wr.heap[b4]? = some (.cells #[.int .i64 x0, .int .i64 x1, .int .i64 x2, .int .i64 x3, .int .i64 y0, .int .i64 y1, .int .i64 y2, .int .i64 y3, .slice none 0 0] 39 (0, 0))) ∧ Hid (IsQ wr b sl bs pk fk) ∧ Hid (wr.heap[w.heap.size]? = some (.cells #[.int .i64 0, .int .i64 0, .int .i64 0, .int .i64 0, .int .i64 0, .int .i64 0, .int .i64 0, .int .i64 0, .slice none 0 0] 39 (0, 0))) ∧ Hid (w.grownBy wr (some b)) ∧ Hid (StI bs p f (4 + k) ([x0, x1, x2, x3, y0, y1, y2, y3].take (4 + k)) pk fk)) (fun i _ => 4 - (intOf i).toNat)
  case atStart => exact ⟨0, p4, f4, 0, 0, 0, 0, by omega, rfl, HB5, HQ5, HZR5, HG5, HST4⟩
  case round =>
    obtain ⟨k, pk, fk, y0, y1, y2, y3, hk, rfl, HB, HQ, HZ, HG, HST⟩ := hrel
    have hk5 : k = 0 ∨ k = 1 ∨ k = 2 ∨ k = 3 ∨ k = 4 := by omega
    clear hk
    rcases hk5 with rfl | rfl | rfl | rfl | rfl
    · have HI := Lib.hid (qInt_any b sl bs pk fk wr HQ.out)
      have hst := HST.out.next
      generalize iV (unl fk (rdInt bs pk)) = yn at HI hst
      generalize iQ pk (unl fk (rdInt bs pk)) = pn at HI hst
      generalize (unl fk (rdInt bs pk)).isNone = fn at HI hst
      have HSN := Lib.hid hst
      clear hst
      go_wp2_with fail
      refine HI.out.mono ?_
      rintro e w1 ⟨rfl, hq1, hg1⟩
      have hb1 := blk_kept' HB.out hg1 (by have := HV4.out; simp; omega)
      have hgs := gb_setCell w1 ⟨b4, 4, none⟩ (.int .i64 yn)
      have hcl := (row_cells hb1)
      have hc := hcl.2.2.2.2.1
      have hf := blk_frozen (j := 4) hb1
      have hbs := blk_set hb1 4 (.int .i64 yn)
      simp only [List.setIfInBounds_toArray, List.set_cons_succ, List.set_cons_zero] at hbs
      have HBN := Lib.hid hbs
      have HQN := Lib.hid (hq1.kept hgs (by have := HV4.out; simp; omega) (fun j hj e => by have := HSL.out j hj; have := HV4.out; simp at e; omega))
      have HZN := Lib.hid (blk_kept' (blk_kept' HZ.out hg1 (by have := HBL.out; simp; omega)) hgs (by have := HV4.out; simp; omega))
      have HGN := Lib.hid (gb_trans (gb_same HG.out hg1) hgs (fun j e => .inr (by have := HV4.out; simp at e; omega)))
      clear hb1 hq1 hg1 hgs hcl hbs
      go_wp2
      go_roundw
      case rel => exact ⟨1, pn, fn, yn, y1, y2, y3, by omega, rfl, HBN, HQN, HZN, HGN, HSN⟩
      case measure => decide
    · have HI := Lib.hid (qInt_any b sl bs pk fk wr HQ.out)
      have hst := HST.out.next
      generalize iV (unl fk (rdInt bs pk)) = yn at HI hst
      generalize iQ pk (unl fk (rdInt bs pk)) = pn at HI hst
      generalize (unl fk (rdInt bs pk)).isNone = fn at HI hst
      have HSN := Lib.hid hst
      clear hst
      go_wp2_with fail
      refine HI.out.mono ?_
      rintro e w1 ⟨rfl, hq1, hg1⟩
      have hb1 := blk_kept' HB.out hg1 (by have := HV4.out; simp; omega)
      have hgs := gb_setCell w1 ⟨b4, 5, none⟩ (.int .i64 yn)
      have hcl := (row_cells hb1)
      have hc := hcl.2.2.2.2.2.1
      have hf := blk_frozen (j := 5) hb1
      have hbs := blk_set hb1 5 (.int .i64 yn)
      simp only [List.setIfInBounds_toArray, List.set_cons_succ, List.set_cons_zero] at hbs
      have HBN := Lib.hid hbs
      have HQN := Lib.hid (hq1.kept hgs (by have := HV4.out; simp; omega) (fun j hj e => by have := HSL.out j hj; have := HV4.out; simp at e; omega))
      have HZN := Lib.hid (blk_kept' (blk_kept' HZ.out hg1 (by have := HBL.out; simp; omega)) hgs (by have := HV4.out; simp; omega))
      have HGN := Lib.hid (gb_trans (gb_same HG.out hg1) hgs (fun j e => .inr (by have := HV4.out; simp at e; omega)))
      clear hb1 hq1 hg1 hgs hcl hbs
      go_wp2
      go_roundw
      case rel => exact ⟨2, pn, fn, y0, yn, y2, y3, by omega, rfl, HBN, HQN, HZN, HGN, HSN⟩
      case measure => decide
    · have HI := Lib.hid (qInt_any b sl bs pk fk wr HQ.out)
      have hst := HST.out.next
      generalize iV (unl fk (rdInt bs pk)) = yn at HI hst
      generalize iQ pk (unl fk (rdInt bs pk)) = pn at HI hst
      generalize (unl fk (rdInt bs pk)).isNone = fn at HI hst
      have HSN := Lib.hid hst
      clear hst
      go_wp2_with fail
      refine HI.out.mono ?_
      rintro e w1 ⟨rfl, hq1, hg1⟩
      have hb1 := blk_kept' HB.out hg1 (by have := HV4.out; simp; omega)
      have hgs := gb_setCell w1 ⟨b4, 6, none⟩ (.int .i64 yn)
      have hcl := (row_cells hb1)
      have hc := hcl.2.2.2.2.2.2.1
      have hf := blk_frozen (j := 6) hb1
      have hbs := blk_set hb1 6 (.int .i64 yn)
      simp only [List.setIfInBounds_toArray, List.set_cons_succ, List.set_cons_zero] at hbs
      have HBN := Lib.hid hbs
      have HQN := Lib.hid (hq1.kept hgs (by have := HV4.out; simp; omega) (fun j hj e => by have := HSL.out j hj; have := HV4.out; simp at e; omega))
      have HZN := Lib.hid (blk_kept' (blk_kept' HZ.out hg1 (by have := HBL.out; simp; omega)) hgs (by have := HV4.out; simp; omega))
      have HGN := Lib.hid (gb_trans (gb_same HG.out hg1) hgs (fun j e => .inr (by have := HV4.out; simp at e; omega)))
      clear hb1 hq1 hg1 hgs hcl hbs
      go_wp2
      go_roundw
      case rel => exact ⟨3, pn, fn, y0, y1, yn, y3, by omega, rfl, HBN, HQN, HZN, HGN, HSN⟩
      case measure => decide
    · have HI := Lib.hid (qInt_any b sl bs pk fk wr HQ.out)
      have hst := HST.out.next
      generalize iV (unl fk (rdInt bs pk)) = yn at HI hst
      generalize iQ pk (unl fk (rdInt bs pk)) = pn at HI hst
      generalize (unl fk (rdInt bs pk)).isNone = fn at HI hst
      have HSN := Lib.hid hst
      clear hst
      go_wp2_with fail
      refine HI.out.mono ?_
      rintro e w1 ⟨rfl, hq1, hg1⟩
      have hb1 := blk_kept' HB.out hg1 (by have := HV4.out; simp; omega)
      have hgs := gb_setCell w1 ⟨b4, 7, none⟩ (.int .i64 yn)
      have hcl := (row_cells hb1)
      have hc := hcl.2.2.2.2.2.2.2.1
      have hf := blk_frozen (j := 7) hb1
      have hbs := blk_set hb1 7 (.int .i64 yn)
      simp only [List.setIfInBounds_toArray, List.set_cons_succ, List.set_cons_zero] at hbs
      have HBN := Lib.hid hbs
      have HQN := Lib.hid (hq1.kept hgs (by have := HV4.out; simp; omega) (fun j hj e => by have := HSL.out j hj; have := HV4.out; simp at e; omega))
      have HZN := Lib.hid (blk_kept' (blk_kept' HZ.out hg1 (by have := HBL.out; simp; omega)) hgs (by have := HV4.out; simp; omega))
      have HGN := Lib.hid (gb_trans (gb_same HG.out hg1) hgs (fun j e => .inr (by have := HV4.out; simp at e; omega)))
      clear hb1 hq1 hg1 hgs hcl hbs
      go_wp2
      go_roundw
      case rel => exact ⟨4, pn, fn, y0, y1, y2, yn, by omega, rfl, HBN, HQN, HZN, HGN, HSN⟩
      case measure => decide
    · have HBY := Lib.hid (qBytes_any b sl bs pk fk 1536 wr HQ.out)
      go_wp2_with fail
      refine HBY.out.mono ?_
      rintro e w1 ⟨dv, rfl, ho1, hq1, hg1⟩
      obtain ⟨ad, cd, hdv⟩ := ho1.rd.len
      have HO1 := Lib.hid ho1
      have HD1 : Hid (∀ j, dv.ownBlock = some j → wr.heap.size ≤ j) := Lib.hid (fun j hj => (ho1.lt j hj).1)
      have HWS := Lib.hid (show b4 < wr.heap.size ∧ w.heap.size < wr.heap.size from ⟨lt_of_blk HB.out, lt_of_blk HZ.out⟩)
      have HB1 := Lib.hid (blk_kept' HB.out hg1 (by have := HV4.out; simp; omega))
      have HZ1 := Lib.hid (blk_kept' HZ.out hg1 (by have := HBL.out; simp; omega))
      have HG1 := Lib.hid (gb_same HG.out hg1)
      have HQ1 := Lib.hid hq1
      have hst : ∀ (l' : List Int), l' = [x0, x1, x2, x3, y0, y1, y2, y3] → unl f (rdG bs p) = (unl fk (rdBytes 1536 bs pk)).map (fun r => (mgOf (l', r.1), r.2)) := by
        rintro l' rfl
        unfold rdG
        rw [rdM_8]
        rcases HST.out with ⟨rfl, rfl, h3⟩ | ⟨rfl, h2⟩
        · rw [unl_f, unl_f, show (4 : Nat) + 4 = 8 from rfl] at *
          rw [h3]
          simp only
          cases rdBytes 1536 bs pk with
          | none => rfl
          | some r => rfl
        · rw [unl_t]
          rcases h2 with h2 | h2
          · subst h2; rfl
          · rw [show (4 : Nat) + 4 = 8 from rfl] at h2
            rw [h2]
            cases f <;> rfl
      have HEQ := Lib.hid (hst _ rfl)
      generalize unl fk (rdBytes 1536 bs pk) = ob at HQ1 HO1 HEQ hdv
      clear ho1 hq1 hg1 hst HBY
      generalize hLL : (byL ob).length = ll at hdv
      subst hdv
      have hc8 := (row_cells HB1.out).2.2.2.2.2.2.2.2
      have hf8 := blk_frozen (j := 8) HB1.out
      have hb2 := blk_set HB1.out 8 (.slice ad ll cd)
      simp only [List.setIfInBounds_toArray, List.set_cons_succ, List.set_cons_zero] at hb2
      have hgs := gb_setCell w1 ⟨b4, 8, none⟩ (.slice ad ll cd)
      have HB2 := Lib.hid hb2
      have HQ2 := Lib.hid (HQ1.out.kept hgs (by have := HV4.out; simp; omega) (fun j hj e => by have := HSL.out j hj; have := HV4.out; simp at e; omega))
      have HZ2 := Lib.hid (blk_kept' HZ1.out hgs (by have := HV4.out; simp; omega))
      have HG2 := Lib.hid (gb_trans HG1.out hgs (fun j e => .inr (by have := HV4.out; simp at e; omega)))
      have HO2 := Lib.hid ((HO1.out.mono (Nat.le_of_lt HWS.out.2)).kept hgs (fun j hj e => by have := HD1.out j hj; have := HWS.out; simp at e; omega))
      have HDN : Hid (∀ j, (Value.slice ad ll cd).ownBlock = some j → j ≠ w.heap.size ∧ j ≠ b) := Lib.hid (fun j hj => by have := HD1.out j hj; have := HWS.out; have := HBL.out; omega)
      have c2 : (w1.setCell ⟨b4, 8, none⟩ (.slice ad ll cd)).cell? ⟨b, 2, none⟩ = some (.bool ob.isNone) := HQ2.out.c2
      clear hb2 hgs
      cases ob with
      | none =>
        have hf := HQ2.out.fr 1
        have hc := HQ2.out.c1
        have hsp := HQ2.out.setP p HPL.out
        have HQ3 := Lib.hid hsp
        have HZ3 := Lib.hid (blk_kept' HZ2.out (gb_setCell (w1.setCell ⟨b4, 8, none⟩ (.slice ad ll cd)) ⟨b, 1, none⟩ (.int .i64 (p : Int))) (by have := HBL.out; simp; omega))
        have HG3 := Lib.hid (gb_same HG2.out (gb_setCell (w1.setCell ⟨b4, 8, none⟩ (.slice ad ll cd)) ⟨b, 1, none⟩ (.int .i64 (p : Int))))
        clear hsp
        go_wp2_with ((with_reducible refine is_store 39 2 39 ?_); go_must (refine st_row 39 2 39 w.heap.size _ zrowM _ rfl rfl HZ3.out msize rfl rfl ?_; intro w4 hb4' hg4))
        refine ret_row rfl w.heap.size 39 zrowM rfl hb4' Try.underlying39 msize ?_
        unfold GotMQ
        rw [HEQ.out]
        exact ⟨.slice none 0 0, rfl, Own.nil _ _, HQ3.out.kept hg4 (by have := HBL.out; simp; omega) (fun j hj e => by have := HSL.out j hj; simp at e; omega), gb_trans HG3.out hg4 (fun j e => .inr (by simp at e; omega))⟩
      | some r =>
        obtain ⟨l, q⟩ := r
        simp only [Option.isNone_some] at c2
        go_wp2_with (first | ((with_reducible refine is_load 39 40 4 ?_); go_must (refine ld_row 39 40 4 b4 _ _ rfl HB2.out Try.underlying39 msize ?_)) | ((with_reducible refine is_store 39 2 40 ?_); go_must (refine st_row 39 2 40 w.heap.size _ _ _ rfl rfl HZ2.out msize rfl rfl ?_; intro w4 hb4' hg4)))
        refine ret_row rfl w.heap.size 39 _ rfl hb4' Try.underlying39 msize ?_
        unfold GotMQ
        rw [HEQ.out]
        exact ⟨.slice ad ll cd, rfl, HO2.out.kept hg4 (fun j hj e => (HDN.out j hj).1 (by simpa using e.symm)), HQ2.out.kept hg4 (by have := HBL.out; simp; omega) (fun j hj e => by have := HSL.out j hj; simp at e; omega), gb_trans HG2.out hg4 (fun j e => .inr (by simp at e; omega))⟩
end Go.Proofs.Ytfldooljmjeaoaa
