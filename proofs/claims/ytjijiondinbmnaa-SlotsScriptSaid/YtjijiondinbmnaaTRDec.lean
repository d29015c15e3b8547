/-
  The reference's Decode: the walk.
-/
import Derived.Test.YtjijiondinbmnaaTQB
import Derived.Test.YtjijiondinbmnaaTDec
namespace Go.Proofs.Ytjijiondinbmnaa
open Go.RowKit

theorem qgot_bounded (b : Nat) (sl : Value) (bs : List UInt8) (p : Nat) (f : Bool) : ∃ (g q : Nat) (f1 : Bool), g ≤ 1000 ∧ p ≤ q ∧
    (∀ w, IsQ w b sl bs p f → Calls Try.prog 32 #[.pointer (some ⟨b, 0, none⟩), .int .i64 0, .int .i64 1000] w (GotQ (.int .i64 (g : Int)) b sl bs q f1 w)) ∧
    ((f = false ∧ f1 = false ∧ rdBounded 0 1000 bs p = some ((g : Int), q)) ∨ (f1 = true ∧ q = p ∧ (f = true ∨ rdBounded 0 1000 bs p = none))) := by
  have key := fun (w : World) (h : IsQ w b sl bs p f) => qBounded_any b sl bs p f 0 1000 w h
  cases f with
  | true =>
    exact ⟨0, p, true, by omega, Nat.le_refl _, key, .inr ⟨rfl, rfl, .inl rfl⟩⟩
  | false =>
    cases hr : rdBounded 0 1000 bs p with
    | none =>
      rw [hr] at key
      exact ⟨0, p, true, by omega, Nat.le_refl _, key, .inr ⟨rfl, rfl, .inr rfl⟩⟩
    | some x =>
      obtain ⟨g, q⟩ := x
      obtain ⟨b1, b2, b3⟩ := rdBounded_enc hr
      obtain ⟨_, _, _, _, c5⟩ := rdInt_enc b3
      obtain ⟨G, rfl⟩ : ∃ G : Nat, g = (G : Int) := ⟨g.toNat, by omega⟩
      rw [hr] at key
      exact ⟨G, q, false, by omega, by omega, key, .inl ⟨rfl, rfl, rfl⟩⟩
theorem qgot_bool (b : Nat) (sl : Value) (bs : List UInt8) (p : Nat) (f : Bool) : ∃ (fl : Bool) (q : Nat) (f1 : Bool), p ≤ q ∧
    (∀ w, IsQ w b sl bs p f → Calls Try.prog 33 #[.pointer (some ⟨b, 0, none⟩)] w (GotQ (.bool fl) b sl bs q f1 w)) ∧
    ((f = false ∧ f1 = false ∧ rdBool bs p = some (fl, q)) ∨ (f1 = true ∧ q = p ∧ fl = false ∧ (f = true ∨ rdBool bs p = none))) := by
  have key := fun (w : World) (h : IsQ w b sl bs p f) => qBool_any b sl bs p f w h
  cases f with
  | true =>
    exact ⟨false, p, true, Nat.le_refl _, key, .inr ⟨rfl, rfl, rfl, .inl rfl⟩⟩
  | false =>
    cases hr : rdBool bs p with
    | none =>
      rw [hr] at key
      exact ⟨false, p, true, Nat.le_refl _, key, .inr ⟨rfl, rfl, rfl, .inr rfl⟩⟩
    | some x =>
      obtain ⟨fl, q⟩ := x
      have := (rdBool_enc hr).1
      rw [hr] at key
      exact ⟨fl, q, false, by omega, key, .inl ⟨rfl, rfl, rfl⟩⟩
theorem qgot_int (b : Nat) (sl : Value) (bs : List UInt8) (p : Nat) (f : Bool) : ∃ (n : Int) (q : Nat) (f1 : Bool), OkI n ∧ p ≤ q ∧
    (∀ w, IsQ w b sl bs p f → Calls Try.prog 34 #[.pointer (some ⟨b, 0, none⟩)] w (GotQ (.int .i64 n) b sl bs q f1 w)) ∧
    ((f = false ∧ f1 = false ∧ rdInt bs p = some (n, q)) ∨ (f1 = true ∧ q = p ∧ (f = true ∨ rdInt bs p = none))) := by
  have key := fun (w : World) (h : IsQ w b sl bs p f) => qInt_any b sl bs p f w h
  cases f with
  | true =>
    exact ⟨0, p, true, by simp [OkI], Nat.le_refl _, key, .inr ⟨rfl, rfl, .inl rfl⟩⟩
  | false =>
    cases hr : rdInt bs p with
    | none =>
      rw [hr] at key
      exact ⟨0, p, true, by simp [OkI], Nat.le_refl _, key, .inr ⟨rfl, rfl, .inr rfl⟩⟩
    | some x =>
      obtain ⟨n, q⟩ := x
      obtain ⟨c1, _, _, _, c5⟩ := rdInt_enc hr
      rw [hr] at key
      exact ⟨n, q, false, c1, by omega, key, .inl ⟨rfl, rfl, rfl⟩⟩
theorem qgot_size (b : Nat) (sl : Value) (bs : List UInt8) (p : Nat) : ∃ (n q : Nat) (f1 : Bool), n ≤ 200 ∧ p ≤ q ∧
    (∀ w, IsQ w b sl bs p false → Calls Try.prog 32 #[.pointer (some ⟨b, 0, none⟩), .int .i64 1, .int .i64 200] w (GotQ (.int .i64 (n : Int)) b sl bs q f1 w)) ∧
    ((f1 = false ∧ rdBounded 1 200 bs p = some ((n : Int), q) ∧ 1 ≤ n) ∨ (f1 = true ∧ n = 0 ∧ rdBounded 1 200 bs p = none)) := by
  have key := fun (w : World) (h : IsQ w b sl bs p false) => qBounded_any b sl bs p false 1 200 w h
  cases hr : rdBounded 1 200 bs p with
  | none =>
    rw [hr] at key
    exact ⟨0, p, true, by omega, Nat.le_refl _, key, .inr ⟨rfl, rfl, rfl⟩⟩
  | some x =>
    obtain ⟨g, q⟩ := x
    obtain ⟨b1, b2, b3⟩ := rdBounded_enc hr
    obtain ⟨_, _, _, _, c5⟩ := rdInt_enc b3
    obtain ⟨G, rfl⟩ : ∃ G : Nat, g = (G : Int) := ⟨g.toNat, by omega⟩
    rw [hr] at key
    exact ⟨G, q, false, by omega, by omega, key, .inl ⟨rfl, rfl, by omega⟩⟩
/-- a table of the reference -/
structure IsV (w : World) (s : Nat) (l : List SS) : Prop where
  row : w.ownsRow 0 76 3 (.slice (some ⟨s, 0, none⟩) l.length l.length) l.length (cellsS l)
  len : l.length ≤ 200
theorem IsV.kept {w w' : World} {s : Nat} {l : List SS} {row : Option Nat} (h : IsV w s l) (hg : w.grownBy w' row) (h2 : row ≠ some s) : IsV w' s l :=
  ⟨World.ownsRow.kept h.row hg (.inr (fun e => h2 e.symm)), h.len⟩
theorem IsV.grown {w w' : World} {s : Nat} {l : List SS} (h : IsV w s l) (hg : w.grownBy w' none) : IsV w' s l := h.kept hg (by simp)
theorem IsV.at {w : World} {s : Nat} {l : List SS} (h : IsV w s l) {i : Nat} {p : SS} (hi : l[i]? = some p) :
    w.cell? ⟨s, i * 3, none⟩ = some (.int .i64 (p.1 : Int)) ∧ w.cell? ⟨s, i * 3 + 1, none⟩ = some (.bool p.2.1) ∧ w.cell? ⟨s, i * 3 + 2, none⟩ = some (.int .i64 p.2.2) := by
  have hlt : i < l.length := (List.getElem?_eq_some_iff.1 hi).1
  refine ⟨?_, ?_, ?_⟩
  · rw [World.ownsRow.cellAt h.row _ (by omega)]; exact cellsS_get 0 (by omega) l hi
  · rw [World.ownsRow.cellAt h.row _ (by omega)]; exact cellsS_get 1 (by omega) l hi
  · rw [World.ownsRow.cellAt h.row _ (by omega)]; exact cellsS_get 2 (by omega) l hi
theorem IsV.frozen {w : World} {s : Nat} {l : List SS} (h : IsV w s l) (j : Nat) : w.frozen? ⟨s, j, none⟩ = false := World.ownsRow.frozenAt h.row j
theorem IsV.lt {w : World} {s : Nat} {l : List SS} (h : IsV w s l) : s < w.heap.size := (World.ownsRow.lt h.row s rfl).2
theorem IsV.store2 {w : World} {s : Nat} {l : List SS} (h : IsV w s l) {b : Nat} {p : SS} (hp : l[b]? = some p) (g : Nat) (fl : Bool) :
    IsV ((w.setCell ⟨s, b * 3, none⟩ (.int .i64 (g : Int))).setCell ⟨s, b * 3 + 1, none⟩ (.bool fl)) s (l.set b (g, fl, p.2.2)) ∧
    w.grownBy ((w.setCell ⟨s, b * 3, none⟩ (.int .i64 (g : Int))).setCell ⟨s, b * 3 + 1, none⟩ (.bool fl)) (some s) := by
  have hlt : b < l.length := (List.getElem?_eq_some_iff.1 hp).1
  refine ⟨?_, gb_same (gb_setCell _ _ _) (gb_setCell _ _ _)⟩
  obtain ⟨k1, k2⟩ := World.ownsRow.stored h.row (b * 3) (.int .i64 (g : Int))
  rw [cellsS_set0 l g hp] at k1
  obtain ⟨k3, k4⟩ := World.ownsRow.stored k1 (b * 3 + 1) (.bool fl)
  rw [cellsS_set1 _ fl (p := (g, p.2.1, p.2.2)) (by simp [hlt]), List.set_set] at k3
  have hlen : (l.set b (g, fl, p.2.2)).length = l.length := by simp
  exact ⟨by rw [hlen]; exact k3, by rw [hlen]; exact h.len⟩
theorem IsV.store1 {w : World} {s : Nat} {l : List SS} (h : IsV w s l) {b : Nat} {p : SS} (hp : l[b]? = some p) (v : Int) :
    IsV (w.setCell ⟨s, b * 3 + 2, none⟩ (.int .i64 v)) s (l.set b (p.1, p.2.1, v)) ∧ w.grownBy (w.setCell ⟨s, b * 3 + 2, none⟩ (.int .i64 v)) (some s) := by
  obtain ⟨k1, k2⟩ := World.ownsRow.stored h.row (b * 3 + 2) (.int .i64 v)
  rw [cellsS_set2 l v hp] at k1
  have hlen : (l.set b (p.1, p.2.1, v)).length = l.length := by simp
  exact ⟨⟨by rw [hlen]; exact k1, by rw [hlen]; exact h.len⟩, k2⟩
theorem info_rslot : (Try.prog.info? 76).map (fun i => (i.zero, i.size, i.bytes)) = some (some (.agg #[.int .i64 0, .bool false, .int .i64 0]), 3, 24) := by kernel_rfl
theorem mk_rslots {ops : Array Oper} {rest : List Oper} {o : Oper} {a : Act} {w : World} {Q : Exit → Act → World → Prop} (hgd : o.guard = none) (l c : Operand) (ho : o.op = .makeSlice 30 l c)
    (n : Nat) (hl : a.eval l = .int .i64 n) (hc : a.eval c = .int .i64 n) (hn : n ≤ 200)
    (h : ∀ w', IsV w' w.heap.size (newS n) → w.grownBy w' none → wpList Try.prog ops Q rest (a.put o.dst (.slice (some ⟨w.heap.size, 0, none⟩) n n)) w') : wpList Try.prog ops Q (o :: rest) a w := by
  obtain ⟨i0, hi, hz0, hz1, hz2⟩ := info_parts info_rslot
  obtain ⟨w', hr, h2, h3⟩ := run_make_full (P := Try.prog) w w.heap.size 30 76 i0 _ 3 Try.underlying30 hi hz0 hz1 .i64 .i64 n (by rw [hz2]; omega) (by unfold maxLen; omega) (Nat.le_refl _)
  rw [made_slots] at h2
  refine wpList_plain hgd fun _ hK => ?_
  unfold Oper.wp execOp
  simp only [ho, hl, hc, hr, Sem.run_bind, Sem.run_pure, Result.andThen_ok]
  have hnl : (newS n).length = n := by simp [newS]
  exact hK _ _ (h w' ⟨by rw [hnl]; exact ownsRow0 h2, by omega⟩ h3)
theorem DecI.zero {bs : List UInt8} {p n i q : Nat} {l : List SS} {x0 : SS} (h : DecI bs p n i q false l) (hp : p ≤ bs.length) (hi : i < n) (hx : l[i]? = some x0) : x0 = (0, false, 0) := by
  rcases h.2 with ⟨_, _, l0, h4, rfl⟩ | ⟨h4, _⟩
  · obtain ⟨a1, _⟩ := rdSlots_enc h4 hp
    rw [List.getElem?_append_right (by omega), a1, Nat.sub_self, newS, List.getElem?_replicate, if_pos (by omega)] at hx
    cases hx
    rfl
  · cases h4
def RDecP (bs : List UInt8) (w : World) (e : Ending) (w' : World) : Prop :=
  match decT bs with
  | none => e = .returned (.tuple #[.slice none 0 0, .int .i64 4]) ∧ w.grownBy w' none
  | some l => ∃ s, e = .returned (.tuple #[.slice (some ⟨s, 0, none⟩) l.length l.length, .int .i64 0]) ∧ w.heap.size ≤ s ∧ w.grownBy w' none ∧ IsV w' s l
set_option maxRecDepth 100000 in
set_option maxHeartbeats 4000000 in
theorem rdecode_any (v : Value) (bs : List UInt8) (w : World) (h : Rd w v bs) (hv : ∀ k, v.ownBlock = some k → k < w.heap.size) (hb : bs.length ≤ 100000) : Calls Try.prog 14 #[v] w (RDecP bs w) := by
  obtain ⟨w1, hw1⟩ : ∃ w1, w.alloc (.cells #[v, .int .i64 0, .bool false] 74) = w1 := ⟨_, rfl⟩
  have hg1 : w.grownBy w1 none := by rw [← hw1]; exact gb_alloc _ _ _
  have hr1 : IsQ w1 w.heap.size v bs 0 false := ⟨by rw [← hw1]; exact heap_at_alloc _ _, h.grown hg1, fun e => by have := hv _ e; omega, Nat.zero_le _, by omega⟩
  obtain ⟨n, p, f1, hn, _, hB, hX⟩ := qgot_size w.heap.size v bs 0
  have HB1 := Lib.hid (hB w1 hr1)
  have HX := Lib.hid hX
  have HG1 := Lib.hid hg1
  have HBL := Lib.hid (show w.heap.size < w1.heap.size from hr1.lt)
  obtain ⟨av, cv, rfl⟩ := h.len
  have HW1 := Lib.hid hw1
  have HVB := Lib.hid hv
  clear hb hw1 hr1 hg1 hB hX hv h
  go_enter Try.func14, Try.ntmps14
  go_wp2_with fail
  rw [HW1.out]
  refine HB1.out.mono ?_
  rintro e w2 ⟨rfl, hr2, hg2⟩
  have HR2 := Lib.hid hr2
  have HG2 := Lib.hid (gb_new HG1.out hg2 (Nat.le_refl _))
  have HS2 := Lib.hid hg2.size
  clear hr2 hg2
  go_wp2_with ((with_reducible refine mk_rslots rfl _ _ rfl n rfl rfl (by omega) ?_); go_must (intro w3 ho3 hg3; have HO3 := Lib.hid ho3; have HG3 := Lib.hid hg3; clear ho3 hg3))
  have HGS := Lib.hid (show w.heap.size < w2.heap.size from Nat.lt_of_lt_of_le HBL.out HS2.out)
  have HR3 := Lib.hid (HR2.out.grown HG3.out)
  have HG4 := Lib.hid (gb_same HG2.out HG3.out)
  have HI4 : Hid (∃ q f l, IsQ w3 w.heap.size (.slice av bs.length cv) bs q f ∧ IsV w3 w2.heap.size l ∧ DecI bs p n 0 q f l ∧ p ≤ bs.length) := Lib.hid (by
    have hnl : (newS n).length = n := by simp [newS]
    rcases HX.out with ⟨rfl, hx, hn1⟩ | ⟨rfl, rfl, hx⟩
    · exact ⟨p, false, newS n, HR3.out, HO3.out, ⟨hnl, .inl ⟨rfl, by omega, [], rfl, by simp⟩⟩, HR3.out.le⟩
    · exact ⟨p, true, newS 0, HR3.out, HO3.out, ⟨rfl, .inr ⟨rfl, .inl rfl⟩⟩, HR3.out.le⟩)
  have HPB : Hid (p ≤ bs.length) := Lib.hid (by obtain ⟨q, f, l, a1, a2, a3, a4⟩ := HI4.out; exact a4)
  generalize hst : w2.heap.size = s at *
  generalize hbt : w.heap.size = b at *
  go_loopw [6] (fun i wr => ∃ (k q : Nat) (f : Bool) (l : List SS), k ≤ n ∧ i = .int .i64 k ∧ Hid (IsQ wr b (.slice av bs.length cv) bs q f) ∧ Hid (IsV wr s l) ∧ Hid (DecI bs p n k q f l) ∧ Hid (w.grownBy wr none)) (fun i _ => n - (intOf i).toNat)
  case atStart =>
    obtain ⟨q, f, l, a1, a2, a3, a4⟩ := HI4.out
    exact ⟨0, q, f, l, Nat.zero_le _, rfl, Lib.hid a1, Lib.hid a2, Lib.hid a3, HG4⟩
  case round =>
    obtain ⟨k, q, f, l, hk, rfl, HR, HT, HD, HG⟩ := hrel
    by_cases hlt : k < n
    · obtain ⟨g, q1, f1', hg1000, hq1, hB, hX1⟩ := qgot_bounded b (.slice av bs.length cv) bs q f
      obtain ⟨fl, q2, f2, hq2, hO, hX2⟩ := qgot_bool b (.slice av bs.length cv) bs q1 f1'
      obtain ⟨v, q3, f3, hv, hq3, hI, hX3⟩ := qgot_int b (.slice av bs.length cv) bs q2 f2
      obtain ⟨x0, hx0⟩ : ∃ x0, l[k]? = some x0 := ⟨_, List.getElem?_eq_getElem (by rw [HD.out.1]; exact hlt)⟩
      have HX0 := Lib.hid hx0
      have HB := Lib.hid (hB wr HR.out)
      have HO := Lib.hid hO
      have HI := Lib.hid hI
      have HXX := Lib.hid (And.intro hX1 (And.intro hX2 hX3))
      have HZ := Lib.hid (fun e : f = false => by subst e; exact DecI.zero HD.out HPB.out hlt hx0)
      clear hB hO hI hX1 hX2 hX3 hx0
      go_wp2_with fail
      refine HB.out.mono ?_
      rintro e w5 ⟨rfl, hr5, hg5⟩
      have HO5 := Lib.hid (HO.out w5 hr5)
      have HT5 := Lib.hid (HT.out.kept hg5 (by have := HGS.out; simp; omega))
      have HG5 := Lib.hid (gb_new HG.out hg5 (by omega))
      clear hr5 hg5
      go_wp2_with fail
      refine HO5.out.mono ?_
      rintro e w6 ⟨rfl, hr6, hg6⟩
      have HT6 := Lib.hid (HT5.out.kept hg6 (by have := HGS.out; simp; omega))
      have HG6 := Lib.hid (gb_new HG5.out hg6 (by omega))
      have HR6 := Lib.hid hr6
      obtain ⟨z0, z1, z2⟩ := HT6.out.at HX0.out
      have y0 := HT6.out.frozen (k * 3)
      have y1 := HT6.out.frozen (k * 3 + 1)
      have hln : l.length = n := HD.out.1
      obtain ⟨ht7, hg7⟩ := HT6.out.store2 HX0.out g fl
      have HT7 := Lib.hid ht7
      have HG7 := Lib.hid (gb_new HG6.out hg7 (by have := HGS.out; omega))
      have HR7 := Lib.hid (HR6.out.kept hg7 (by have := HGS.out; simp; omega) (fun k2 e => by have h1 := HVB.out k2 e; have := HGS.out; simp; omega))
      have hx7 : (l.set k (g, fl, x0.2.2))[k]? = some (g, fl, x0.2.2) := List.getElem?_set_self (by omega)
      have HX7 := Lib.hid hx7
      obtain ⟨t0, t1, t2⟩ := ht7.at hx7
      simp only at t0 t1 t2
      clear hr6 hg6 ht7 hg7
      cases fl with
      | false =>
        have hst : (f = false ∧ f2 = false ∧ rdSlot bs q = some ((g, false, x0.2.2), q2)) ∨ (f2 = true ∧ (f = true → q2 = q) ∧ (f = true ∨ rdSlot bs q = none)) := by
          rcases slot_false HXX.out.1 (by simpa using HXX.out.2.1) with ⟨e1, e2, e3⟩ | h
          · exact .inl ⟨e1, e2, by rw [HZ.out e1]; exact e3⟩
          · exact .inr h
        have HD7 := Lib.hid (HD.out.step hlt HPB.out hst).1
        clear hst
        go_wp2
        go_roundw
        case rel => exact ⟨k + 1, q2, f2, _, by omega, by go_num, HR7, HT7, HD7, HG7⟩
        case measure => simp [intOf]; omega
      | true =>
        have HI7 := Lib.hid (HI.out _ HR7.out)
        go_wp2_with fail
        refine HI7.out.mono ?_
        rintro e w8 ⟨rfl, hr8, hg8⟩
        have HT8 := Lib.hid (HT7.out.kept hg8 (by have := HGS.out; simp; omega))
        have HG8 := Lib.hid (gb_new HG7.out hg8 (by omega))
        have HR8 := Lib.hid hr8
        obtain ⟨_, _, s2⟩ := HT8.out.at HX7.out
        have y2 := HT8.out.frozen (k * 3 + 2)
        simp only at s2
        obtain ⟨ht9, hg9⟩ := HT8.out.store1 HX7.out v
        simp only [List.set_set] at ht9
        have HT9 := Lib.hid ht9
        have HG9 := Lib.hid (gb_new HG8.out hg9 (by have := HGS.out; omega))
        have HR9 := Lib.hid (HR8.out.kept hg9 (by have := HGS.out; simp; omega) (fun k2 e => by have h1 := HVB.out k2 e; have := HGS.out; simp; omega))
        obtain ⟨r0, r1, _⟩ := ht9.at (i := k) (p := (g, true, v)) (List.getElem?_set_self (by omega))
        simp only at r0 r1
        clear hr8 hg8 ht9 hg9 t0 t1 t2 z0 z1 z2 y0 y1
        by_cases hgm : g = 1000
        · have hst := (slot_true HXX.out.1 HXX.out.2.1 HXX.out.2.2).2 hgm
          have HDF := Lib.hid (dec_fail HX.out (HD.out.step (f' := true) (q' := q) (x := x0) hlt HPB.out (.inr ⟨rfl, fun _ => rfl, hst.2⟩)).1 hlt)
          subst hgm
          clear hst
          go_wp2
          go_ret2
          show RDecP _ _ _ _
          unfold RDecP
          rw [HDF.out]
          exact ⟨rfl, HG9.out⟩
        · have hst := (slot_true HXX.out.1 HXX.out.2.1 HXX.out.2.2).1 hgm
          have HD9 := Lib.hid (HD.out.step hlt HPB.out hst).1
          have hgb : ((g : Int) == 1000) = false := by rw [beq_eq_false_iff_ne]; omega
          clear hst
          go_wp2
          go_roundw
          case rel => exact ⟨k + 1, q3, f3, _, by omega, by go_num, HR9, HT9, HD9, HG9⟩
          case measure => simp [intOf]; omega
    · obtain rfl : k = n := by omega
      have hln : l.length = k := HD.out.1
      clear hlt
      have HEN := Lib.hid (qEnd_any b _ bs q f wr HR.out)
      by_cases hok : f = true ∨ q < bs.length
      · have HE4 := Lib.hid (show endOf f bs q = 4 from by unfold endOf; rw [if_pos hok])
        have HDN : Hid (decT bs = none) := Lib.hid (by
          cases f with
          | true => exact dec_fail HX.out HD.out (Nat.le_refl _)
          | false =>
            rcases hok with h | h
            · cases h
            · rw [(dec_good HX.out HPB.out HD.out).1, if_pos h])
        rw [HE4.out] at HEN
        clear hok hln
        go_wp2_with fail
        refine HEN.out.mono ?_
        rintro e w9 ⟨rfl, m9, rfl⟩
        go_wp2
        go_ret2
        show RDecP _ _ _ _
        unfold RDecP
        rw [HDN.out]
        exact ⟨rfl, gb_same HG.out (gb_drewN _ _ _)⟩
      · have HE4 := Lib.hid (show endOf f bs q = 0 from by unfold endOf; rw [if_neg hok])
        obtain ⟨h1, h2⟩ := not_or.1 hok
        have hff : f = false := by simpa using h1
        subst hff
        have hdg := dec_good HX.out HPB.out HD.out
        have HDN : Hid (decT bs = some l) := Lib.hid (by rw [hdg.1, if_neg h2])
        have hk0 : ((k : Int) == 0) = false := by rw [beq_eq_false_iff_ne]; have := hdg.2.1; omega
        rw [HE4.out] at HEN
        clear hok h1 h2 hdg
        go_wp2_with fail
        refine HEN.out.mono ?_
        rintro e w9 ⟨rfl, m9, rfl⟩
        go_wp2
        go_ret2
        show RDecP _ _ _ _
        unfold RDecP
        rw [HDN.out]
        exact ⟨s, by rw [hln]; rfl, by rw [hbt]; have := HGS.out; omega, gb_same HG.out (gb_drewN _ _ _), HT.out.grown (gb_drewN _ _ _)⟩
end Go.Proofs.Ytjijiondinbmnaa
