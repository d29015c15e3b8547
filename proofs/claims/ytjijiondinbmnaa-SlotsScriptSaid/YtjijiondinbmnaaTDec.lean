/-
  slots.Decode: what it reads, and the walk.
-/
import Derived.Test.YtjijiondinbmnaaTRead
namespace Go.Proofs.Ytjijiondinbmnaa
open Go.RowKit

/-- slots that begin at a position -/
def rdSlots (bs : List UInt8) (p : Nat) : Nat → Option (List SS × Nat)
  | 0 => some ([], p)
  | k + 1 =>
    match rdSlots bs p k with
    | none => none
    | some (l, q) =>
      match rdSlot bs q with
      | none => none
      | some (s, r) => some (l ++ [s], r)
theorem rdSlots_enc {bs : List UInt8} {p : Nat} : ∀ {k : Nat} {l : List SS} {q : Nat}, rdSlots bs p k = some (l, q) → p ≤ bs.length →
    l.length = k ∧ (∀ s ∈ l, SOk s) ∧ q = p + (l.flatMap encSl).length ∧ (bs.drop p).take (l.flatMap encSl).length = l.flatMap encSl ∧ q ≤ bs.length
  | 0, l, q, h, hp => by cases h; exact ⟨rfl, by simp, rfl, rfl, hp⟩
  | k + 1, l, q, h, hp => by
    unfold rdSlots at h
    split at h
    · cases h
    · rename_i l1 q1 h1
      split at h
      · cases h
      · rename_i s r h2
        cases h
        obtain ⟨a1, a2, a3, a4, a5⟩ := rdSlots_enc h1 hp
        obtain ⟨b1, b2, b3, b4, b5⟩ := rdSlot_enc h2
        refine ⟨by simp [a1], ?_, ?_, ?_, b4⟩
        · intro x hx
          rcases List.mem_append.1 hx with h | h
          · exact a2 x h
          · simp at h; subst h; exact b1
        · rw [List.flatMap_append, List.length_append, List.flatMap_cons, List.flatMap_nil, List.append_nil]; omega
        · rw [List.flatMap_append]
          simp only [List.flatMap_cons, List.flatMap_nil, List.append_nil]
          exact seg_append a4 (by rw [← a3]; exact b3)
theorem rdSlots_none {bs : List UInt8} {p : Nat} {i : Nat} (h : rdSlots bs p i = none) : ∀ k, i ≤ k → rdSlots bs p k = none
  | 0, hk => by have : i = 0 := by omega
                subst this; exact h
  | k + 1, hk => by
    by_cases he : i = k + 1
    · subst he; exact h
    · have := rdSlots_none h k (by omega)
      unfold rdSlots; rw [this]
/-- a table that has these bytes as its encoding -/
def decT (bs : List UInt8) : Option (List SS) :=
  match rdBounded 1 200 bs 0 with
  | none => none
  | some (n, p) =>
    match rdSlots bs p n.toNat with
    | none => none
    | some (l, q) => if q < bs.length then none else some l
theorem encN_flat (l : List SS) : ∀ k, k ≤ l.length → encN l k = enc (l.length : Int) ++ (l.take k).flatMap encSl
  | 0, _ => by simp [encN]
  | k + 1, hk => by
    obtain ⟨p, hp⟩ : ∃ p, l[k]? = some p := ⟨_, List.getElem?_eq_getElem (by omega)⟩
    rw [encN_snoc hp, encN_flat l k (by omega), List.take_add_one, hp, List.flatMap_append]
    simp
theorem decT_enc {bs : List UInt8} {l : List SS} (h : decT bs = some l) : 0 < l.length ∧ l.length ≤ 200 ∧ (∀ s ∈ l, SOk s) ∧ encN l l.length = bs := by
  unfold decT at h
  split at h
  · cases h
  · rename_i n p hb
    split at h
    · cases h
    · rename_i l1 q hs
      split at h
      · cases h
      · rename_i hq
        cases h
        obtain ⟨b1, b2, b3⟩ := rdBounded_enc hb
        obtain ⟨c1, c2, c3, c4, c5⟩ := rdInt_enc b3
        obtain ⟨a1, a2, a3, a4, a5⟩ := rdSlots_enc hs c4
        refine ⟨by omega, by omega, a2, ?_⟩
        rw [encN_flat l _ (Nat.le_refl _), List.take_of_length_le (Nat.le_refl _), show ((l.length : Nat) : Int) = n by omega]
        have hh : (bs.drop 0).take (enc n ++ l.flatMap encSl).length = enc n ++ l.flatMap encSl := seg_append c3 (by rw [← c2]; exact a4)
        rw [← hh, List.drop_zero, List.take_of_length_le]
        rw [List.length_append]
        omega

/-- a table whose slots may hold anything -/
structure IsU (w : World) (g s : Nat) (l : List SS) : Prop where
  tab : w.heap[g]? = some (.cells #[.slice (some ⟨s, 0, none⟩) l.length l.length] 63 (0, 0))
  row : w.ownsRow 0 69 3 (.slice (some ⟨s, 0, none⟩) l.length l.length) l.length (cellsS l)
  ne : g ≠ s
  len : l.length ≤ 200
theorem IsU.kept {w w' : World} {g s : Nat} {l : List SS} {row : Option Nat} (h : IsU w g s l) (hg : w.grownBy w' row) (h1 : row ≠ some g) (h2 : row ≠ some s) : IsU w' g s l :=
  ⟨blk_kept' h.tab hg h1, World.ownsRow.kept h.row hg (.inr (fun e => h2 e.symm)), h.ne, h.len⟩
theorem IsU.cell {w : World} {g s : Nat} {l : List SS} (h : IsU w g s l) : w.cell? ⟨g, 0, none⟩ = some (.slice (some ⟨s, 0, none⟩) l.length l.length) := cell_row h.tab
theorem IsU.at {w : World} {g s : Nat} {l : List SS} (h : IsU w g s l) {i : Nat} {p : SS} (hi : l[i]? = some p) :
    w.cell? ⟨s, i * 3, none⟩ = some (.int .i64 (p.1 : Int)) ∧ w.cell? ⟨s, i * 3 + 1, none⟩ = some (.bool p.2.1) ∧ w.cell? ⟨s, i * 3 + 2, none⟩ = some (.int .i64 p.2.2) := by
  have hlt : i < l.length := (List.getElem?_eq_some_iff.1 hi).1
  refine ⟨?_, ?_, ?_⟩
  · rw [World.ownsRow.cellAt h.row _ (by omega)]; exact cellsS_get 0 (by omega) l hi
  · rw [World.ownsRow.cellAt h.row _ (by omega)]; exact cellsS_get 1 (by omega) l hi
  · rw [World.ownsRow.cellAt h.row _ (by omega)]; exact cellsS_get 2 (by omega) l hi
theorem IsU.frozen {w : World} {g s : Nat} {l : List SS} (h : IsU w g s l) (j : Nat) : w.frozen? ⟨s, j, none⟩ = false := World.ownsRow.frozenAt h.row j
theorem IsU.store {w : World} {g s : Nat} {l : List SS} (h : IsU w g s l) {b : Nat} {p : SS} (hp : l[b]? = some p) (x : SS) :
    IsU (((w.setCell ⟨s, b * 3, none⟩ (.int .i64 (x.1 : Int))).setCell ⟨s, b * 3 + 1, none⟩ (.bool x.2.1)).setCell ⟨s, b * 3 + 2, none⟩ (.int .i64 x.2.2)) g s (l.set b x) ∧
    w.grownBy (((w.setCell ⟨s, b * 3, none⟩ (.int .i64 (x.1 : Int))).setCell ⟨s, b * 3 + 1, none⟩ (.bool x.2.1)).setCell ⟨s, b * 3 + 2, none⟩ (.int .i64 x.2.2)) (some s) := by
  have hlt : b < l.length := (List.getElem?_eq_some_iff.1 hp).1
  refine ⟨?_, gb_same (gb_same (gb_setCell _ _ _) (gb_setCell _ _ _)) (gb_setCell _ _ _)⟩
  obtain ⟨k1, k2⟩ := World.ownsRow.stored h.row (b * 3) (.int .i64 (x.1 : Int))
  rw [cellsS_set0 l x.1 hp] at k1
  obtain ⟨k3, k4⟩ := World.ownsRow.stored k1 (b * 3 + 1) (.bool x.2.1)
  rw [cellsS_set1 _ x.2.1 (p := (x.1, p.2.1, p.2.2)) (by simp [hlt]), List.set_set] at k3
  obtain ⟨k5, k6⟩ := World.ownsRow.stored k3 (b * 3 + 2) (.int .i64 x.2.2)
  rw [cellsS_set2 _ x.2.2 (p := (x.1, x.2.1, p.2.2)) (by simp [hlt]), List.set_set] at k5
  have hlen : (l.set b x).length = l.length := by simp
  have hne := h.ne
  refine ⟨?_, by rw [hlen]; exact k5, h.ne, by rw [hlen]; exact h.len⟩
  rw [hlen]
  exact blk_kept' (blk_kept' (blk_kept' h.tab k2 (by simp; omega)) k4 (by simp; omega)) k6 (by simp; omega)
theorem newU_box {w w' : World} {n : Nat} (hn2 : n ≤ 200) (h : w'.ownsRow w.heap.size 69 3 (.slice (some ⟨w.heap.size, 0, none⟩) n n) n (cellsS (newS n))) :
    IsU (w'.alloc (.cells #[.slice (some ⟨w.heap.size, 0, none⟩) n n] 63)) w'.heap.size w.heap.size (newS n) := by
  have hl : (newS n).length = n := by simp [newS]
  have hlt := (World.ownsRow.lt h w.heap.size rfl).2
  refine ⟨?_, ?_, by omega, by omega⟩
  · rw [hl]; exact heap_at_alloc _ _
  · rw [hl]; exact ownsRow0 (World.ownsRow.kept h (gb_alloc _ _ none) (.inr (by simp [Value.ownBlock])))
def DecP (bs : List UInt8) (w : World) (e : Ending) (w' : World) : Prop :=
  match decT bs with
  | none => e = .returned (.tuple #[.pointer none, .int .i64 4]) ∧ w.grownBy w' none
  | some l => ∃ g s, e = .returned (.tuple #[.pointer (some ⟨g, 0, none⟩), .int .i64 0]) ∧ w.heap.size ≤ g ∧ w.heap.size ≤ s ∧ w.grownBy w' none ∧ IsT w' g s l
theorem got_size (b : Nat) (sl : Value) (bs : List UInt8) (p : Nat) : ∃ (n q : Nat) (f1 : Bool), n ≤ 200 ∧ p ≤ q ∧
    (∀ w, IsR w b sl bs p false → Calls Try.prog 28 #[.pointer (some ⟨b, 0, none⟩), .int .i64 1, .int .i64 200] w (Got (.int .i64 (n : Int)) b sl bs q f1 w)) ∧
    ((f1 = false ∧ rdBounded 1 200 bs p = some ((n : Int), q) ∧ 1 ≤ n) ∨ (f1 = true ∧ n = 0 ∧ rdBounded 1 200 bs p = none)) := by
  have key := fun (w : World) (h : IsR w b sl bs p false) => got_of (bounded_any b sl bs p false w 1 200 h)
  cases hr : rdBounded 1 200 bs p with
  | none =>
    rw [hr] at key
    exact ⟨0, p, true, by omega, Nat.le_refl _, key, .inr ⟨rfl, rfl, rfl⟩⟩
  | some x =>
    obtain ⟨g, q⟩ := x
    obtain ⟨b1, b2, b3⟩ := rdBounded_enc hr
    obtain ⟨_, _, _, _, c5⟩ := rdInt_enc b3
    obtain ⟨G, rfl⟩ : ∃ G : Nat, g = (G : Int) := ⟨g.toNat, by omega⟩
    rw [hr] at key
    exact ⟨G, q, false, by omega, by omega, key, .inl ⟨rfl, rfl, by omega⟩⟩
/-- where the loop stands: so many slots have been read, or the reader has failed -/
def DecI (bs : List UInt8) (p n i q : Nat) (f : Bool) (l : List SS) : Prop :=
  l.length = n ∧ ((f = false ∧ 0 < n ∧ ∃ l0, rdSlots bs p i = some (l0, q) ∧ l = l0 ++ newS (n - i)) ∨ (f = true ∧ (n = 0 ∨ rdSlots bs p i = none)))
theorem DecI.step {bs : List UInt8} {p n i q q' : Nat} {f f' : Bool} {l : List SS} {x : SS} (h : DecI bs p n i q f l) (hi : i < n) (hp : p ≤ bs.length)
    (hx : (f = false ∧ f' = false ∧ rdSlot bs q = some (x, q')) ∨ (f' = true ∧ (f = true → q' = q) ∧ (f = true ∨ rdSlot bs q = none))) :
    DecI bs p n (i + 1) q' f' (l.set i x) ∧ (f' = false → q < q') := by
  obtain ⟨h1, h2⟩ := h
  rcases hx with ⟨rfl, rfl, h3⟩ | ⟨rfl, _, h3⟩
  · rcases h2 with ⟨_, hn0, l0, h4, rfl⟩ | ⟨h4, _⟩
    · obtain ⟨a1, _⟩ := rdSlots_enc h4 hp
      refine ⟨⟨by rw [List.length_set]; exact h1, .inl ⟨rfl, hn0, l0 ++ [x], by unfold rdSlots; rw [h4]; simp only [h3], ?_⟩⟩, fun _ => (rdSlot_enc h3).2.2.2.2⟩
      rw [List.set_append_right _ _ (by omega), a1, Nat.sub_self, show n - i = (n - (i + 1)) + 1 by omega]
      unfold newS
      rw [List.replicate_succ, List.set_cons_zero, List.append_assoc]
      rfl
    · cases h4
  · refine ⟨⟨by rw [List.length_set]; exact h1, .inr ⟨rfl, .inr ?_⟩⟩, by simp⟩
    rcases h2 with ⟨rfl, _, l0, h4, rfl⟩ | ⟨rfl, h4⟩
    · rcases h3 with h3 | h3
      · cases h3
      · unfold rdSlots; rw [h4]; simp only [h3]
    · rcases h4 with h4 | h4
      · omega
      · unfold rdSlots; rw [h4]
theorem dec_fail {bs : List UInt8} {p n i q : Nat} {f1 : Bool} {l : List SS} (hx : (f1 = false ∧ rdBounded 1 200 bs 0 = some ((n : Int), p) ∧ 1 ≤ n) ∨ (f1 = true ∧ n = 0 ∧ rdBounded 1 200 bs 0 = none)) (h : DecI bs p n i q true l) (hi : i ≤ n) : decT bs = none := by
  unfold decT
  rcases hx with ⟨_, h1, h2⟩ | ⟨_, _, h1⟩
  · rw [h1]
    simp only [Int.toNat_natCast]
    rcases h.2 with ⟨h3, _⟩ | ⟨_, h3⟩
    · cases h3
    · rcases h3 with h3 | h3
      · omega
      · rw [rdSlots_none h3 n hi]
  · rw [h1]
theorem dec_good {bs : List UInt8} {p n q : Nat} {f1 : Bool} {l : List SS} (hx : (f1 = false ∧ rdBounded 1 200 bs 0 = some ((n : Int), p) ∧ 1 ≤ n) ∨ (f1 = true ∧ n = 0 ∧ rdBounded 1 200 bs 0 = none)) (hp : p ≤ bs.length) (h : DecI bs p n n q false l) :
    decT bs = (if q < bs.length then none else some l) ∧ 0 < n ∧ ∀ s ∈ l, SOk s := by
  rcases h.2 with ⟨_, hn0, l0, h3, h4⟩ | ⟨h3, _⟩
  · rw [Nat.sub_self] at h4
    have h5 : l = l0 := by rw [h4]; simp [newS]
    subst h5
    obtain ⟨a1, a2, _⟩ := rdSlots_enc h3 hp
    rcases hx with ⟨_, h1, h2⟩ | ⟨_, h2, h1⟩
    · refine ⟨?_, by omega, a2⟩
      unfold decT
      rw [h1]
      simp only [Int.toNat_natCast]
      rw [h3]
    · omega
  · cases h3
set_option maxRecDepth 100000 in
theorem read2_any (v : Value) (bs : List UInt8) (w : World) (h : Rd w v bs) (hb : bs.length ≤ 1099511627776) :
    Calls Try.prog 27 #[v] w fun e w' => ∃ b sl, e = .returned (.pointer (some ⟨b, 0, none⟩)) ∧ w.heap.size ≤ b ∧ IsR w' b sl bs 0 false ∧ w.grownBy w' none ∧ (∀ k, sl.ownBlock = some k → w.heap.size ≤ k ∧ k < w'.heap.size) := by
  have HC := Lib.hid (clone_any v bs w h hb)
  have HB := Lib.hid hb
  clear h hb
  go_enter Try.func27, Try.ntmps27
  go_wp2_with (go_at_call 50; refine HC.out.mono ?_; rintro e w1 ⟨v1, rfl, ho1, hg1⟩; obtain ⟨a1, c1, rfl⟩ := ho1.rd.len)
  go_ret
  exact ⟨w1.heap.size, _, rfl, hg1.size, ⟨heap_alloc_new _ _, ho1.rd.grown (gb_alloc _ _ _), fun e => by have := (ho1.lt _ e).2; omega, Nat.zero_le _, HB.out⟩, gb_trans0 hg1 (gb_alloc _ _ _), fun k hk => ⟨(ho1.lt k hk).1, by have := (ho1.lt k hk).2; simp; omega⟩⟩
set_option maxRecDepth 100000 in
set_option maxHeartbeats 4000000 in
theorem decode_any (v : Value) (bs : List UInt8) (w : World) (h : Rd w v bs) (hb : bs.length ≤ 100000) : Calls Try.prog 13 #[v] w (DecP bs w) := by
  have HRD := Lib.hid (read2_any v bs w h (by omega))
  have HBL := Lib.hid hb
  clear h hb
  go_enter Try.func13, Try.ntmps13
  go_wp2_with fail
  refine HRD.out.mono ?_
  rintro e w1 ⟨b, sl, rfl, hb, hr1, hg1, hs1⟩
  obtain ⟨n, p, f1, hn, _, hB, hX⟩ := got_size b sl bs 0
  have HB1 := Lib.hid (hB w1 hr1)
  have HX := Lib.hid hX
  have HSL := Lib.hid hs1
  have HG1 := Lib.hid hg1
  have HBB := Lib.hid (show w.heap.size ≤ b ∧ b < w1.heap.size from ⟨hb, hr1.lt⟩)
  clear hb hr1 hg1 hs1 hB hX
  go_wp2_with fail
  refine HB1.out.mono ?_
  rintro e w2 ⟨rfl, hr2, hg2⟩
  have HR2 := Lib.hid hr2
  have HG2 := Lib.hid (gb_new HG1.out hg2 HBB.out.1)
  have HS2 := Lib.hid hg2.size
  clear hr2 hg2
  go_wp2_with ((with_reducible refine mk_slots rfl _ _ rfl n rfl rfl (by omega) ?_); go_must (intro w3 ho3 hg3; have HO3 := Lib.hid ho3; have HG3 := Lib.hid hg3; clear ho3 hg3))
  have hti : IsU (w3.alloc (.cells #[.slice (some ⟨w2.heap.size, 0, none⟩) n n] 63)) w3.heap.size w2.heap.size (newS n) := newU_box hn HO3.out
  have hg4 : w2.grownBy (w3.alloc (.cells #[.slice (some ⟨w2.heap.size, 0, none⟩) n n] 63)) none := gb_same HG3.out (gb_alloc _ _ _)
  obtain ⟨w4, hw4⟩ : ∃ w4, w3.alloc (.cells #[.slice (some ⟨w2.heap.size, 0, none⟩) n n] 63) = w4 := ⟨_, rfl⟩
  rw [hw4] at hti hg4 ⊢
  have hc4 := hti.cell
  have hnl : (newS n).length = n := by simp [newS]
  rw [hnl] at hc4
  have HT4 := Lib.hid hti
  have HG4 := Lib.hid (gb_same HG2.out hg4)
  have HR4 := Lib.hid (HR2.out.grown hg4)
  have HZ := Lib.hid (show w1.heap.size ≤ w3.heap.size ∧ w1.heap.size ≤ w2.heap.size ∧ w.heap.size ≤ w1.heap.size from ⟨Nat.le_trans HS2.out HG3.out.size, HS2.out, HG1.out.size⟩)
  have HI4 : Hid (∃ q f l, IsR w4 b sl bs q f ∧ IsU w4 w3.heap.size w2.heap.size l ∧ DecI bs p n 0 q f l ∧ p ≤ bs.length) := Lib.hid (by
    rcases HX.out with ⟨rfl, hx, hn1⟩ | ⟨rfl, rfl, hx⟩
    · exact ⟨p, false, newS n, HR4.out, hti, ⟨hnl, .inl ⟨rfl, by omega, [], rfl, by simp⟩⟩, HR4.out.le⟩
    · exact ⟨p, true, newS 0, HR4.out, hti, ⟨rfl, .inr ⟨rfl, .inl rfl⟩⟩, HR4.out.le⟩)
  have HGS := Lib.hid (show w1.heap.size ≤ w3.heap.size ∧ w1.heap.size ≤ w2.heap.size ∧ w.heap.size ≤ w3.heap.size ∧ w.heap.size ≤ w2.heap.size from ⟨HZ.out.1, HZ.out.2.1, by have := HZ.out; omega, by have := HZ.out; omega⟩)
  clear hti hg4 hw4 hnl
  go_wp2
  generalize hgt : w3.heap.size = g at *
  generalize hst : w2.heap.size = s at *
  go_loopw [21] (fun i wr => ∃ (k q : Nat) (f : Bool) (l : List SS), k ≤ n ∧ i = .int .i64 k ∧ Hid (IsR wr b sl bs q f) ∧ Hid (IsU wr g s l) ∧ Hid (DecI bs p n k q f l) ∧ Hid (w.grownBy wr none)) (fun i _ => n - (intOf i).toNat)
  case atStart =>
    obtain ⟨q, f, l, a1, a2, a3, a4⟩ := HI4.out
    exact ⟨0, q, f, l, Nat.zero_le _, rfl, Lib.hid a1, Lib.hid a2, Lib.hid a3, HG4⟩
  case round =>
    obtain ⟨k, q, f, l, hk, rfl, HR, HT, HD, HG⟩ := hrel
    clear hc4
    have HPB : Hid (p ≤ bs.length) := Lib.hid (by obtain ⟨q, f, l, a1, a2, a3, a4⟩ := HI4.out; exact a4)
    by_cases hlt : k < n
    · have HLE := Lib.hid (left_any b sl bs q f wr HR.out)
      go_wp2_with fail
      refine HLE.out.mono ?_
      rintro e w5 ⟨rfl, m5, hw5⟩
      have hg5 : wr.grownBy w5 none := by rw [hw5]; exact gb_drewN _ _ _
      clear hw5
      have HR5 := Lib.hid (HR.out.grown (gb_same hg5 (gb_drew w5 none)))
      have HT5 := Lib.hid (HT.out.kept (gb_same hg5 (gb_drew w5 none)) (by simp) (by simp))
      have HG5 := Lib.hid (gb_same HG.out hg5)
      have HRS := Lib.hid (readSlot_any b sl bs q f w5.drew HR5.out (fun k2 e => by have h1 := (HSL.out k2 e).2; have h2 := HT5.out.tab; have h3 := (World.ownsRow.lt HT5.out.row s rfl).2; have h4 := HGS.out.2.1; omega))
      obtain ⟨x0, hx0⟩ : ∃ x0, l[k]? = some x0 := ⟨_, List.getElem?_eq_getElem (by rw [HD.out.1]; exact hlt)⟩
      have HX0 := Lib.hid hx0
      have HS0 := HT5.out.cell
      rw [HD.out.1] at HS0
      clear hx0 hg5
      go_wp2_with fail
      refine region_KL (fuel := 9) (listed := #[false, false, false, false, false, false, false, false, false]) (fun X => X.cell? ⟨g, 0, none⟩ = some (.slice (some ⟨s, 0, none⟩) n n)) 8 (by kernel_rfl) rfl (by kernel_rfl) ?_
      refine wpAnyK_takeL (i := 0) (d := 26) (v := ?_) (T' := ?_) (listed' := #[true, false, false, false, false, false, false, false, false]) rfl rfl (by kernel_rfl) (fun _ _ _ h => h) rfl (Or.inl ⟨by rfl, ?_⟩) ?_ HS0 ?_
      rotate_left 2
      · intro w hS; clear hS; go_simp; rfl
      · simp only [List.setIfInBounds_toArray, List.set_cons_succ, List.set_cons_zero]; rfl
      refine wpAnyK_takeL (i := 1) (d := 27) (v := ?_) (T' := ?_) (listed' := #[true, true, false, false, false, false, false, false, false]) rfl rfl (by kernel_rfl) (fun _ _ _ h => h) rfl (Or.inl ⟨by rfl, ?_⟩) ?_ HS0 ?_
      rotate_left 2
      · intro w hS; clear hS; go_simp; rfl
      · simp only [List.setIfInBounds_toArray, List.set_cons_succ, List.set_cons_zero]; rfl
      refine wpAnyK_takeL (i := 2) (d := 28) (v := ?_) (T' := ?_) (listed' := #[true, true, true, false, false, false, false, false, false]) rfl rfl (by kernel_rfl) (fun _ _ _ h => h) rfl (Or.inl ⟨by rfl, ?_⟩) ?_ HS0 ?_
      rotate_left 2
      · intro w hS; clear hS; go_simp; rfl
      · simp only [List.setIfInBounds_toArray, List.set_cons_succ, List.set_cons_zero]; rfl
      refine wpAnyK_takeL (i := 3) (d := 29) (v := ?_) (T' := ?_) (listed' := #[true, true, true, true, false, false, false, false, false]) rfl rfl (by kernel_rfl) (fun _ _ _ h => h) rfl (Or.inl ⟨by rfl, ?_⟩) ?_ HS0 ?_
      rotate_left 2
      · intro w hS; have t0 := hS; clear hS; go_simp; rfl
      · simp only [List.setIfInBounds_toArray, List.set_cons_succ, List.set_cons_zero]; rfl
      refine wpAnyK_takeL (i := 4) (d := 30) (v := ?_) (T' := ?_) (listed' := #[true, true, true, true, true, false, false, false, false]) rfl rfl (by kernel_rfl) (fun _ _ _ h => h) rfl (Or.inl ⟨by rfl, ?_⟩) ?_ HS0 ?_
      rotate_left 2
      · intro w hS; clear hS; go_simp; rfl
      · simp only [List.setIfInBounds_toArray, List.set_cons_succ, List.set_cons_zero]; rfl
      refine wpAnyK_takeL (i := 5) (d := 31) (v := ?_) (T' := ?_) (listed' := #[true, true, true, true, true, true, false, false, false]) rfl rfl (by kernel_rfl) (fun _ _ _ h => h) rfl (Or.inl ⟨by rfl, ?_⟩) ?_ HS0 ?_
      rotate_left 2
      · intro w hS; clear hS; go_simp; rfl
      · simp only [List.setIfInBounds_toArray, List.set_cons_succ, List.set_cons_zero]; rfl
      refine wpAnyK_oneL (i := 6) (listed' := #[true, true, true, true, true, true, true, false, false]) (by kernel_rfl) rfl (by rfl) rfl ?_
      intro K hK
      go_simp
      refine HRS.out.mono ?_
      rintro e w6 ⟨x, q', f', rfl, hr6, hg6, hqq, hx⟩
      have hne : b ≠ g ∧ b ≠ s ∧ b < s := by have := HGS.out; have := HBB.out; omega
      have HT6 := Lib.hid (HT5.out.kept hg6 (by have := hne.1; simp; omega) (by have := hne.2.1; simp; omega))
      have HR6 := Lib.hid hr6
      have HG6 := Lib.hid (gb_trans (gb_same HG5.out (gb_drew _ _)) hg6 (fun k2 e => .inr (by cases e; exact HBB.out.1)))
      have HXR := Lib.hid hx
      have HNE := Lib.hid hne
      obtain ⟨z0, z1, z2⟩ := HT6.out.at HX0.out
      have y0 := HT6.out.frozen (k * 3)
      have y1 := HT6.out.frozen (k * 3 + 1)
      have y2 := HT6.out.frozen (k * 3 + 2)
      clear hr6 hg6 hx hne hqq
      have hc6 := HT6.out.cell
      rw [HD.out.1] at hc6
      refine hK _ _ (fun _ => hc6) ?_
      clear hK K
      refine wpAnyK_oneL (i := 7) (listed' := #[true, true, true, true, true, true, true, true, false]) (by kernel_rfl) rfl (by rfl) rfl ?_
      intro K hK
      go_simp
      refine hK _ _ (fun _ => hc6) ?_
      clear hK K hc6
      refine wpAnyK_oneL (i := 8) (listed' := #[true, true, true, true, true, true, true, true, true]) (by kernel_rfl) rfl (by rfl) rfl ?_
      intro K hK
      go_simp
      refine hK _ _ (fun h => Bool.noConfusion (show true = false from h)) ?_
      clear hK K
      refine wpAnyK_done (by kernel_rfl) ?_ _
      obtain ⟨hst7, hgs7⟩ := HT6.out.store HX0.out x
      have hr7 := HR6.out.kept hgs7 (by have := HNE.out.2.1; simp; omega) (fun k2 e => by have := (HSL.out k2 e).2; have := HGS.out.2.1; simp; omega)
      generalize ((w6.setCell ⟨s, k * 3, none⟩ (.int .i64 (x.1 : Int))).setCell ⟨s, k * 3 + 1, none⟩ (.bool x.2.1)).setCell ⟨s, k * 3 + 2, none⟩ (.int .i64 x.2.2) = w7 at *
      have HT7 := Lib.hid hst7
      have HR7 := Lib.hid hr7
      have HG7 := Lib.hid (gb_trans HG6.out hgs7 (fun k2 e => .inr (by cases e; exact HGS.out.2.2.2)))
      have hd7 := HD.out.step hlt HPB.out HXR.out
      have HD7 := Lib.hid hd7.1
      have HP7 := Lib.hid hd7.2
      have HLE7 := Lib.hid (left_any b sl bs q' f' w7 hr7)
      have hq1 := HR.out.le
      have hq2 := hr7.le
      clear hst7 hr7 hgs7 hd7 z0 z1 z2 y0 y1 y2
      by_cases hqq : q' = q
      · have hf' : f' = true := by
          cases f' with
          | true => rfl
          | false => have := HP7.out rfl; omega
        subst hf' hqq
        have HEN := Lib.hid (fun m => end_any b sl bs q' true (w7.drewN m) (HR7.out.grown (gb_drewN _ _ _)))
        have HDN := Lib.hid (dec_fail HX.out HD7.out (by omega))
        clear hq1 hq2
        go_wp2_with fail
        refine HLE7.out.mono ?_
        rintro e w8 ⟨rfl, m8, rfl⟩
        go_wp2_with fail
        refine (HEN.out m8).mono ?_
        rintro e w9 ⟨rfl, m9, rfl⟩
        simp only [endOf, true_or, if_true]
        go_wp2
        go_ret2
        show DecP _ _ _ _
        unfold DecP
        rw [HDN.out]
        exact ⟨rfl, gb_same HG7.out (gb_drewN _ _ _)⟩
      · have hqe : (((bs.length - q' : Nat) : Int) == ((bs.length - q : Nat) : Int)) = false := by rw [beq_eq_false_iff_ne]; omega
        clear hqq hq1 hq2
        go_wp2_with fail
        refine HLE7.out.mono ?_
        rintro e w8 ⟨rfl, m8, hw8⟩
        have hg8 : w7.grownBy w8 none := by rw [hw8]; exact gb_drewN _ _ _
        have HR8 := Lib.hid (HR7.out.grown hg8)
        have HT8 := Lib.hid (HT7.out.kept hg8 (by simp) (by simp))
        have HG8 := Lib.hid (gb_same HG7.out hg8)
        clear hw8 hg8
        go_wp2
        go_roundw
        case rel => exact ⟨k + 1, q', f', l.set k x, by omega, by go_num, HR8, HT8, HD7, HG8⟩
        case measure => simp [intOf]; omega
    · obtain rfl : k = n := by omega
      clear hlt
      have HEN := Lib.hid (end_any b sl bs q f wr HR.out)
      by_cases hok : f = true ∨ q < bs.length
      · have HE4 := Lib.hid (show endOf f bs q = 4 from by unfold endOf; rw [if_pos hok])
        have HDN : Hid (decT bs = none) := Lib.hid (by
          cases f with
          | true => exact dec_fail HX.out HD.out (Nat.le_refl _)
          | false =>
            rcases hok with h | h
            · cases h
            · rw [(dec_good HX.out HPB.out HD.out).1, if_pos h])
        rw [HE4.out] at HEN
        clear hok
        go_wp2_with fail
        refine HEN.out.mono ?_
        rintro e w9 ⟨rfl, m9, rfl⟩
        go_wp2
        go_ret2
        show DecP _ _ _ _
        unfold DecP
        rw [HDN.out]
        exact ⟨rfl, gb_same HG.out (gb_drewN _ _ _)⟩
      · have HE4 := Lib.hid (show endOf f bs q = 0 from by unfold endOf; rw [if_neg hok])
        obtain ⟨h1, h2⟩ := not_or.1 hok
        have hff : f = false := by simpa using h1
        subst hff
        have hdg := dec_good HX.out HPB.out HD.out
        have HDN : Hid (decT bs = some l) := Lib.hid (by rw [hdg.1, if_neg h2])
        have HDG := Lib.hid hdg.2
        rw [HE4.out] at HEN
        clear hok h1 h2 hdg
        go_wp2_with fail
        refine HEN.out.mono ?_
        rintro e w9 ⟨rfl, m9, rfl⟩
        go_wp2
        go_ret2
        show DecP _ _ _ _
        unfold DecP
        rw [HDN.out]
        have hk := HT.out.kept (gb_drewN wr m9 none) (by simp) (by simp)
        exact ⟨g, s, rfl, HGS.out.2.2.1, HGS.out.2.2.2, gb_same HG.out (gb_drewN _ _ _), hk.tab, hk.row, hk.ne, by rw [HD.out.1]; exact HDG.out.1, hk.len, HDG.out.2⟩
end Go.Proofs.Ytjijiondinbmnaa
