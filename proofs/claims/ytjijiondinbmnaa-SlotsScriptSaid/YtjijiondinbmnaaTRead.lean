/-
  slots.read: what it reads, and the walk.
-/
import Derived.Test.YtjijiondinbmnaaWS
import Derived.Test.YtjijiondinbmnaaTEnc
namespace Go.Proofs.Ytjijiondinbmnaa
open Go.RowKit

theorem rdInt_enc {bs : List UInt8} {p : Nat} {v : Int} {q : Nat} (h : rdInt bs p = some (v, q)) : OkI v ∧ q = p + (enc v).length ∧ (bs.drop p).take (enc v).length = enc v ∧ q ≤ bs.length ∧ p < q := by
  unfold rdInt at h
  split at h
  · cases h
  · rename_i hk
    cases h
    obtain ⟨h1, h2, h3, h4⟩ := num_canon (bs := bs.drop p) (u := (num (bs.drop p)).1) (k := (num (bs.drop p)).2) rfl hk
    have he : enc (unzz (num (bs.drop p)).1) = encU (num (bs.drop p)).1 := by unfold enc; rw [zz_unzz]
    rw [he, ← h2]
    rw [List.length_drop] at h4
    exact ⟨unzz_range h1, rfl, h3, by omega, by omega⟩
theorem rdBounded_enc {a b : Int} {bs : List UInt8} {p : Nat} {v : Int} {q : Nat} (h : rdBounded a b bs p = some (v, q)) : a ≤ v ∧ v ≤ b ∧ rdInt bs p = some (v, q) := by
  unfold rdBounded at h
  split at h
  · cases h
  · rename_i n q' hi
    split at h
    · cases h
    · cases h
      exact ⟨by omega, by omega, hi⟩
theorem rdBool_enc {bs : List UInt8} {p : Nat} {v : Bool} {q : Nat} (h : rdBool bs p = some (v, q)) : q = p + 1 ∧ (bs.drop p).take 1 = encB v ∧ q ≤ bs.length := by
  unfold rdBool at h
  split at h
  · cases h
  · rename_i c hc
    split at h
    · rename_i hle
      cases h
      obtain ⟨h1, h2⟩ := List.getElem?_eq_some_iff.1 hc
      refine ⟨rfl, ?_, by omega⟩
      rw [List.drop_eq_getElem_cons h1, h2]
      simp only [List.take_succ_cons, List.take_zero]
      unfold encB
      have hc2 : c = UInt8.ofNat c.toNat := by simp
      by_cases h1 : c.toNat = 1
      · rw [if_pos (by simp [h1]), hc2, h1]; rfl
      · have h0 : c.toNat = 0 := by omega
        rw [if_neg (by simp [h1]), hc2, h0]; rfl
    · cases h

/-- a slot that begins at a position -/
def rdSlot (bs : List UInt8) (p : Nat) : Option (SS × Nat) :=
  match rdBounded 0 1000 bs p with
  | none => none
  | some (g, q) =>
    match rdBool bs q with
    | none => none
    | some (fl, r) =>
      if fl = true then
        match rdInt bs r with
        | none => none
        | some (v, t) => if g = 1000 then none else some ((g.toNat, true, v), t)
      else some ((g.toNat, false, 0), r)
theorem seg_append {bs x y : List UInt8} {p : Nat} (h1 : (bs.drop p).take x.length = x) (h2 : (bs.drop (p + x.length)).take y.length = y) : (bs.drop p).take (x ++ y).length = x ++ y := by
  rw [List.length_append, List.take_add, h1, List.drop_drop, h2]
theorem rdSlot_enc {bs : List UInt8} {p : Nat} {s : SS} {q : Nat} (h : rdSlot bs p = some (s, q)) : SOk s ∧ q = p + (encSl s).length ∧ (bs.drop p).take (encSl s).length = encSl s ∧ q ≤ bs.length ∧ p < q := by
  unfold rdSlot at h
  split at h
  · cases h
  · rename_i g q1 hb
    obtain ⟨b1, b2, b3⟩ := rdBounded_enc hb
    obtain ⟨c1, c2, c3, c4, c5⟩ := rdInt_enc b3
    obtain ⟨G, rfl⟩ : ∃ G : Nat, g = (G : Int) := ⟨g.toNat, by omega⟩
    split at h
    · cases h
    · rename_i fl r hbo
      obtain ⟨d1, d2, d3⟩ := rdBool_enc hbo
      have hel : (encB fl).length = 1 := by unfold encB; split <;> rfl
      have hgb : (bs.drop p).take (enc (G : Int) ++ encB fl).length = enc (G : Int) ++ encB fl := seg_append c3 (by rw [← c2, hel]; exact d2)
      split at h
      · rename_i hfl
        split at h
        · cases h
        · rename_i v t hi
          split at h
          · cases h
          · rename_i hg
            cases h
            obtain ⟨e1, e2, e3, e4, e5⟩ := rdInt_enc hi
            rw [hfl] at hgb hel d2
            refine ⟨⟨by simp only [Int.toNat_natCast]; omega, fun _ => by simp only [Int.toNat_natCast]; omega, by simp, e1⟩, ?_, ?_, e4, by omega⟩
            · unfold encSl; simp only [Int.toNat_natCast, if_true, List.length_append]; omega
            · unfold encSl; simp only [Int.toNat_natCast, if_true]
              exact seg_append hgb (by rw [List.length_append, hel, show p + ((enc (G : Int)).length + 1) = r by omega]; exact e3)
      · rename_i hfl
        cases h
        have hfl : fl = false := by simpa using hfl
        rw [hfl] at hgb hel
        refine ⟨⟨by simp only [Int.toNat_natCast]; omega, by simp, by simp, by simp [OkI]⟩, ?_, ?_, d3, by omega⟩
        · unfold encSl; simp only [Int.toNat_natCast, List.length_append]; simp; omega
        · unfold encSl; simp only [Int.toNat_natCast]; simpa using hgb

/-- what a call on a reader gives: a value, the position and whether the reader has failed -/
def Got (v : Value) (b : Nat) (sl : Value) (bs : List UInt8) (q : Nat) (f : Bool) (w : World) (e : Ending) (w' : World) : Prop := e = .returned v ∧ IsR w' b sl bs q f ∧ w.grownBy w' (some b)
def gv (z : Value) : Option (Value × Nat) → Value
  | some x => x.1
  | none => z
def gq (p : Nat) : Option (Value × Nat) → Nat
  | some x => x.2
  | none => p
theorem got_of {b : Nat} {sl : Value} {bs : List UInt8} {p : Nat} {z : Value} {r : Option (Value × Nat)} {w : World} {fn : FuncId} {args : Array Value} (h : Calls Try.prog fn args w (ROut w b sl bs p z r)) :
    Calls Try.prog fn args w (Got (gv z r) b sl bs (gq p r) r.isNone w) := by
  refine h.mono fun e w' hr => ?_
  cases r with
  | none => exact hr
  | some x => obtain ⟨v, q⟩ := x; exact hr
theorem got_bounded (b : Nat) (sl : Value) (bs : List UInt8) (p : Nat) (f : Bool) : ∃ (g q : Nat) (f1 : Bool), g ≤ 1000 ∧ p ≤ q ∧
    (∀ w, IsR w b sl bs p f → Calls Try.prog 28 #[.pointer (some ⟨b, 0, none⟩), .int .i64 0, .int .i64 1000] w (Got (.int .i64 (g : Int)) b sl bs q f1 w)) ∧
    ((f = false ∧ f1 = false ∧ rdBounded 0 1000 bs p = some ((g : Int), q)) ∨ (f1 = true ∧ q = p ∧ (f = true ∨ rdBounded 0 1000 bs p = none))) := by
  have key := fun (w : World) (h : IsR w b sl bs p f) => got_of (bounded_any b sl bs p f w 0 1000 h)
  cases f with
  | true =>
    exact ⟨0, p, true, by omega, Nat.le_refl _, key, .inr ⟨rfl, rfl, .inl rfl⟩⟩
  | false =>
    cases hr : rdBounded 0 1000 bs p with
    | none =>
      rw [hr] at key
      exact ⟨0, p, true, by omega, Nat.le_refl _, key, .inr ⟨rfl, rfl, .inr rfl⟩⟩
    | some x =>
      obtain ⟨g, q⟩ := x
      obtain ⟨b1, b2, b3⟩ := rdBounded_enc hr
      obtain ⟨_, _, _, _, c5⟩ := rdInt_enc b3
      obtain ⟨G, rfl⟩ : ∃ G : Nat, g = (G : Int) := ⟨g.toNat, by omega⟩
      rw [hr] at key
      exact ⟨G, q, false, by omega, by omega, key, .inl ⟨rfl, rfl, rfl⟩⟩
theorem got_bool (b : Nat) (sl : Value) (bs : List UInt8) (p : Nat) (f : Bool) : ∃ (fl : Bool) (q : Nat) (f1 : Bool), p ≤ q ∧
    (∀ w, IsR w b sl bs p f → Calls Try.prog 55 #[.pointer (some ⟨b, 0, none⟩)] w (Got (.bool fl) b sl bs q f1 w)) ∧
    ((f = false ∧ f1 = false ∧ rdBool bs p = some (fl, q)) ∨ (f1 = true ∧ q = p ∧ fl = false ∧ (f = true ∨ rdBool bs p = none))) := by
  have key := fun (w : World) (h : IsR w b sl bs p f) => got_of (bool_any b sl bs p f w h)
  cases f with
  | true =>
    exact ⟨false, p, true, Nat.le_refl _, key, .inr ⟨rfl, rfl, rfl, .inl rfl⟩⟩
  | false =>
    cases hr : rdBool bs p with
    | none =>
      rw [hr] at key
      exact ⟨false, p, true, Nat.le_refl _, key, .inr ⟨rfl, rfl, rfl, .inr rfl⟩⟩
    | some x =>
      obtain ⟨fl, q⟩ := x
      have := (rdBool_enc hr).1
      rw [hr] at key
      exact ⟨fl, q, false, by omega, key, .inl ⟨rfl, rfl, rfl⟩⟩
theorem got_int (b : Nat) (sl : Value) (bs : List UInt8) (p : Nat) (f : Bool) : ∃ (n : Int) (q : Nat) (f1 : Bool), OkI n ∧ p ≤ q ∧
    (∀ w, IsR w b sl bs p f → Calls Try.prog 53 #[.pointer (some ⟨b, 0, none⟩)] w (Got (.int .i64 n) b sl bs q f1 w)) ∧
    ((f = false ∧ f1 = false ∧ rdInt bs p = some (n, q)) ∨ (f1 = true ∧ q = p ∧ (f = true ∨ rdInt bs p = none))) := by
  have key := fun (w : World) (h : IsR w b sl bs p f) => got_of (rint_f b sl bs p f w h)
  cases f with
  | true =>
    exact ⟨0, p, true, by simp [OkI], Nat.le_refl _, key, .inr ⟨rfl, rfl, .inl rfl⟩⟩
  | false =>
    cases hr : rdInt bs p with
    | none =>
      rw [hr] at key
      exact ⟨0, p, true, by simp [OkI], Nat.le_refl _, key, .inr ⟨rfl, rfl, .inr rfl⟩⟩
    | some x =>
      obtain ⟨n, q⟩ := x
      obtain ⟨c1, _, _, _, c5⟩ := rdInt_enc hr
      rw [hr] at key
      exact ⟨n, q, false, c1, by omega, key, .inl ⟨rfl, rfl, rfl⟩⟩
/-- .. and slots.read -/
def SlP (w : World) (b : Nat) (sl : Value) (bs : List UInt8) (p : Nat) (f : Bool) (e : Ending) (w' : World) : Prop :=
  ∃ (s : SS) (q : Nat) (f1 : Bool), e = .returned (.agg #[.int .i64 (s.1 : Int), .bool s.2.1, .int .i64 s.2.2]) ∧ IsR w' b sl bs q f1 ∧ w.grownBy w' (some b) ∧ p ≤ q ∧
    ((f = false ∧ f1 = false ∧ rdSlot bs p = some (s, q)) ∨ (f1 = true ∧ (f = true → q = p) ∧ (f = true ∨ rdSlot bs p = none)))
theorem sz_slot : (Try.prog.info? 69).map (·.size) = some 3 := by kernel_rfl
theorem ext_of_set {w w' : World} {b k : Nat} {o : Obj} (h : w.heap[k]? = some o) (hg : w.grownBy w' (some b)) (hne : k ≠ b) : w'.heap[k]? = some o := blk_kept' h hg (by simp; omega)
theorem slot_false {bs : List UInt8} {p q1 q2 g : Nat} {f f1 f2 : Bool} (h1 : (f = false ∧ f1 = false ∧ rdBounded 0 1000 bs p = some ((g : Int), q1)) ∨ (f1 = true ∧ q1 = p ∧ (f = true ∨ rdBounded 0 1000 bs p = none)))
    (h2 : (f1 = false ∧ f2 = false ∧ rdBool bs q1 = some (false, q2)) ∨ (f2 = true ∧ q2 = q1 ∧ True ∧ (f1 = true ∨ rdBool bs q1 = none))) :
    (f = false ∧ f2 = false ∧ rdSlot bs p = some ((g, false, 0), q2)) ∨ (f2 = true ∧ (f = true → q2 = p) ∧ (f = true ∨ rdSlot bs p = none)) := by
  rcases h1 with ⟨rfl, rfl, h3⟩ | ⟨rfl, rfl, h3⟩
  · rcases h2 with ⟨_, rfl, h4⟩ | ⟨rfl, rfl, _, h4⟩
    · exact .inl ⟨rfl, rfl, by unfold rdSlot; rw [h3]; simp only [h4]; simp⟩
    · rcases h4 with h4 | h4
      · cases h4
      · exact .inr ⟨rfl, by simp, .inr (by unfold rdSlot; rw [h3]; simp only [h4])⟩
  · rcases h2 with ⟨h4, _⟩ | ⟨rfl, rfl, _, _⟩
    · cases h4
    · refine .inr ⟨rfl, fun _ => rfl, ?_⟩
      rcases h3 with h3 | h3
      · exact .inl h3
      · exact .inr (by unfold rdSlot; rw [h3])
theorem slot_true {bs : List UInt8} {p q1 q2 q3 g : Nat} {v : Int} {f f1 f2 f3 : Bool} (h1 : (f = false ∧ f1 = false ∧ rdBounded 0 1000 bs p = some ((g : Int), q1)) ∨ (f1 = true ∧ q1 = p ∧ (f = true ∨ rdBounded 0 1000 bs p = none)))
    (h2 : (f1 = false ∧ f2 = false ∧ rdBool bs q1 = some (true, q2)) ∨ (f2 = true ∧ q2 = q1 ∧ true = false ∧ (f1 = true ∨ rdBool bs q1 = none)))
    (h3 : (f2 = false ∧ f3 = false ∧ rdInt bs q2 = some (v, q3)) ∨ (f3 = true ∧ q3 = q2 ∧ (f2 = true ∨ rdInt bs q2 = none))) :
    (g ≠ 1000 → (f = false ∧ f3 = false ∧ rdSlot bs p = some ((g, true, v), q3)) ∨ (f3 = true ∧ (f = true → q3 = p) ∧ (f = true ∨ rdSlot bs p = none))) ∧ (g = 1000 → (f = true → q3 = p) ∧ (f = true ∨ rdSlot bs p = none)) := by
  rcases h2 with ⟨rfl, rfl, h4⟩ | ⟨_, _, h4, _⟩
  · rcases h1 with ⟨rfl, _, h5⟩ | ⟨h5, _⟩
    · refine ⟨fun hg => ?_, fun hg => ⟨by simp, .inr ?_⟩⟩
      · rcases h3 with ⟨_, rfl, h6⟩ | ⟨rfl, _, h6⟩
        · refine .inl ⟨rfl, rfl, ?_⟩
          have hgi : ¬ (g : Int) = 1000 := by omega
          unfold rdSlot; rw [h5]; simp [h4, h6, hgi]
        · rcases h6 with h6 | h6
          · cases h6
          · exact .inr ⟨rfl, by simp, .inr (by unfold rdSlot; rw [h5]; simp only [h4, h6]; simp)⟩
      · unfold rdSlot; rw [h5]; simp only [h4]
        rcases h3 with ⟨_, _, h6⟩ | ⟨_, _, h6⟩
        · have hgi : (g : Int) = 1000 := by omega
          simp [h6, hgi]
        · rcases h6 with h6 | h6
          · cases h6
          · simp only [h6]; simp
    · cases h5
  · cases h4
set_option maxRecDepth 100000 in
set_option maxHeartbeats 2000000 in
theorem readSlot_any (b : Nat) (sl : Value) (bs : List UInt8) (p : Nat) (f : Bool) (w : World) (h : IsR w b sl bs p f) (hsl : ∀ k, sl.ownBlock = some k → k < w.heap.size) : Calls Try.prog 30 #[.pointer (some ⟨b, 0, none⟩)] w (SlP w b sl bs p f) := by
  obtain ⟨g, q1, f1, hg1, hq1, hB, hX1⟩ := got_bounded b sl bs p f
  obtain ⟨fl, q2, f2, hq2, hO, hX2⟩ := got_bool b sl bs q1 f1
  obtain ⟨v, q3, f3, hv, hq3, hI, hX3⟩ := got_int b sl bs q2 f2
  obtain ⟨w1, hw1⟩ : ∃ w1, w.alloc (.cells #[.int .i64 0, .bool false, .int .i64 0] 69) = w1 := ⟨_, rfl⟩
  have hgb1 : w.grownBy w1 none := by rw [← hw1]; exact gb_alloc _ _ _
  have hbk1 : w1.heap[w.heap.size]? = some (.cells #[.int .i64 0, .bool false, .int .i64 0] 69 (0, 0)) := by rw [← hw1]; exact heap_at_alloc _ _
  have hlt := h.lt
  have HB := Lib.hid (hB w1 (h.grown hgb1))
  have HO := Lib.hid hO
  have HI := Lib.hid hI
  have HW1 := Lib.hid hw1
  have HG1 := Lib.hid hgb1
  have HB1 := Lib.hid hbk1
  have HX := Lib.hid (And.intro hX1 (And.intro hX2 hX3))
  have HQ := Lib.hid (And.intro hq1 (And.intro hq2 hq3))
  have HNE := Lib.hid (show w.heap.size ≠ b from by omega)
  have HLB := Lib.hid hlt
  have HSL := Lib.hid hsl
  clear hsl
  clear h hB hO hI hw1 hgb1 hbk1 hX1 hX2 hX3 hq1 hq2 hq3 hlt
  go_enter Try.func30, Try.ntmps30
  go_wp2_with fail
  rw [HW1.out]
  refine HB.out.mono ?_
  rintro e w2 ⟨rfl, hr2, hg2⟩
  have HO2 := Lib.hid (HO.out w2 hr2)
  have HG2 := Lib.hid (gb_trans (gb_none (some b) HG1.out) hg2 (fun _ e => .inl e))
  have HB2 := Lib.hid (ext_of_set HB1.out hg2 HNE.out)
  clear hr2 hg2
  go_wp2_with fail
  refine HO2.out.mono ?_
  rintro e w3 ⟨rfl, hr3, hg3⟩
  have HR3 := Lib.hid hr3
  have HG3 := Lib.hid (gb_trans HG2.out hg3 (fun _ e => .inl e))
  have HB3 := Lib.hid (ext_of_set HB2.out hg3 HNE.out)
  clear hr3 hg3
  cases fl with
  | false =>
    obtain ⟨w4, hw4⟩ : ∃ w4, w3.alloc (.cells #[.int .i64 (g : Int), .bool false, .int .i64 0] 69) = w4 := ⟨_, rfl⟩
    have HG4 : Hid (w3.grownBy w4 none) := Lib.hid (by rw [← hw4]; exact gb_alloc _ _ _)
    have HB4 := Lib.hid (blk_kept HB3.out HG4.out)
    have HW4 := Lib.hid hw4
    clear hw4
    go_wp2_with ((with_reducible refine is_store 69 2 23 ?_); go_must (refine st_row 69 2 23 w.heap.size #[.int .i64 0, .bool false, .int .i64 0] #[.int .i64 (g : Int), .bool false, .int .i64 0] _ rfl rfl (by rw [HW4.out]; exact HB4.out) sz_slot rfl rfl ?_; intro w9 hb9 hg9))
    refine ret_row rfl w.heap.size _ _ rfl hb9 Try.underlying69 sz_slot ?_
    rw [HW4.out] at hg9
    refine ⟨(g, false, 0), q2, f2, rfl, ((HR3.out.grown HG4.out).kept hg9 (by have := HNE.out; simpa using this) (fun k hk e => by have := HSL.out k hk; simp at e; omega)), gb_trans (gb_trans HG3.out HG4.out (by simp)) hg9 (fun k e => .inr (by cases e; exact Nat.le_refl _)), by have := HQ.out; omega, ?_⟩
    exact slot_false HX.out.1 HX.out.2.1
  | true =>
    obtain ⟨w4, hw4⟩ : ∃ w4, w3.alloc (.cells #[.int .i64 (g : Int), .bool true, .int .i64 0] 69) = w4 := ⟨_, rfl⟩
    have HG4 : Hid (w3.grownBy w4 none) := Lib.hid (by rw [← hw4]; exact gb_alloc _ _ _)
    have HC4 : Hid (w4.heap[w3.heap.size]? = some (.cells #[.int .i64 (g : Int), .bool true, .int .i64 0] 69 (0, 0))) := Lib.hid (by rw [← hw4]; exact heap_at_alloc _ _)
    have HB4 := Lib.hid (blk_kept HB3.out HG4.out)
    have HI4 := Lib.hid (HI.out w4 (HR3.out.grown HG4.out))
    have HN3 := Lib.hid (show w3.heap.size ≠ b ∧ w.heap.size < w3.heap.size from by
      have h1 := HG3.out.size
      have h2 := HLB.out
      have h3 := (Array.getElem?_eq_some_iff.1 HB3.out).1
      omega)
    have HW4 := Lib.hid hw4
    clear hw4
    go_wp2_with fail
    rw [HW4.out]
    refine HI4.out.mono ?_
    rintro e w5 ⟨rfl, hr5, hg5⟩
    have hc5 := ext_of_set HC4.out hg5 HN3.out.1
    have HB5 := Lib.hid (ext_of_set HB4.out hg5 HNE.out)
    have z2 : w5.cell? ⟨w3.heap.size, 2, none⟩ = some (.int .i64 0) := cell_row hc5
    have y2 : w5.frozen? ⟨w3.heap.size, 2, none⟩ = false := frozen_of_row w5 w3.heap.size 2 _ _ hc5
    obtain ⟨w6, hw6⟩ : ∃ w6, w5.setCell ⟨w3.heap.size, 2, none⟩ (.int .i64 v) = w6 := ⟨_, rfl⟩
    have hg6 : w5.grownBy w6 (some w3.heap.size) := by rw [← hw6]; exact gb_setCell _ _ _
    have hc6 : w6.heap[w3.heap.size]? = some (.cells #[.int .i64 (g : Int), .bool true, .int .i64 v] 69 (0, 0)) := by
      rw [← hw6]; exact heap_setCell_same w5 w3.heap.size 2 #[.int .i64 (g : Int), .bool true, .int .i64 0] _ (.int .i64 v) hc5
    have HB6 := Lib.hid (blk_kept' HB5.out hg6 (by have := HN3.out.2; simp; omega))
    have HR6 := Lib.hid (hr5.kept hg6 (by have := HN3.out.1; simpa using this) (fun k hk e => by have := HSL.out k hk; have := HN3.out.2; simp at e; omega))
    have HG6 := Lib.hid (gb_trans (gb_trans (gb_trans HG3.out HG4.out (by simp)) hg5 (fun _ e => .inl e)) hg6 (fun k e => .inr (by cases e; have := HN3.out.2; omega)))
    have x0 : w6.cell? ⟨w3.heap.size, 0, none⟩ = some (.int .i64 (g : Int)) := cell_row hc6
    have x1 : w6.cell? ⟨w3.heap.size, 1, none⟩ = some (.bool true) := cell_row hc6
    have x2 : w6.cell? ⟨w3.heap.size, 2, none⟩ = some (.int .i64 v) := cell_row hc6
    have HC6 := Lib.hid hc6
    have HW6 := Lib.hid hw6
    clear hr5 hc5 hg5 hg6 hc6
    rw [HW6.out] at *
    by_cases hgm : g = 1000
    · subst hgm
      have HF := Lib.hid (fail_g b sl bs q3 f3 w6 HR6.out)
      go_wp2_with fail
      refine HF.out.mono ?_
      rintro e w7 ⟨rfl, hr7, hg7⟩
      have hc7 := ext_of_set HC6.out hg7 HN3.out.1
      have HB7 := Lib.hid (ext_of_set HB6.out hg7 HNE.out)
      have HG7 := Lib.hid (gb_trans HG6.out hg7 (fun _ e => .inl e))
      have HR7 := Lib.hid hr7
      have t0 : w7.cell? ⟨w3.heap.size, 0, none⟩ = some (.int .i64 1000) := cell_row hc7
      have t1 : w7.cell? ⟨w3.heap.size, 1, none⟩ = some (.bool true) := cell_row hc7
      have t2 : w7.cell? ⟨w3.heap.size, 2, none⟩ = some (.int .i64 v) := cell_row hc7
      clear hr7 hc7 hg7 x0 x1 x2
      go_wp2_with ((with_reducible refine is_store 69 2 23 ?_); go_must (refine st_row 69 2 23 w.heap.size #[.int .i64 0, .bool false, .int .i64 0] #[.int .i64 1000, .bool true, .int .i64 v] _ rfl rfl HB7.out sz_slot rfl rfl ?_; intro w9 hb9 hg9))
      refine ret_row rfl w.heap.size _ _ rfl hb9 Try.underlying69 sz_slot ?_
      have hst := (slot_true HX.out.1 HX.out.2.1 HX.out.2.2).2 rfl
      exact ⟨(1000, true, v), q3, true, rfl, HR7.out.kept hg9 (by have := HNE.out; simpa using this) (fun k hk e => by have := HSL.out k hk; simp at e; omega), gb_trans HG7.out hg9 (fun k e => .inr (by cases e; exact Nat.le_refl _)), by have := HQ.out; omega, .inr ⟨rfl, hst⟩⟩
    · have hg2 : ((g : Int) == 1000) = false := by rw [beq_eq_false_iff_ne]; omega
      go_wp2_with ((with_reducible refine is_store 69 2 23 ?_); go_must (refine st_row 69 2 23 w.heap.size #[.int .i64 0, .bool false, .int .i64 0] #[.int .i64 (g : Int), .bool true, .int .i64 v] _ rfl rfl HB6.out sz_slot rfl rfl ?_; intro w9 hb9 hg9))
      refine ret_row rfl w.heap.size _ _ rfl hb9 Try.underlying69 sz_slot ?_
      have hst := (slot_true HX.out.1 HX.out.2.1 HX.out.2.2).1 hgm
      exact ⟨(g, true, v), q3, f3, rfl, HR6.out.kept hg9 (by have := HNE.out; simpa using this) (fun k hk e => by have := HSL.out k hk; simp at e; omega), gb_trans HG6.out hg9 (fun k e => .inr (by cases e; exact Nat.le_refl _)), by have := HQ.out; omega, hst⟩
end Go.Proofs.Ytjijiondinbmnaa
