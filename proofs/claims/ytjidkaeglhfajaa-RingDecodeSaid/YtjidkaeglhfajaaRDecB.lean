/-
  ring.DecodeBytes and the reference's DecodeBytes: the walks.
-/
import Derived.Test.YtjidkaeglhfajaaRQB
import Derived.Test.YtjidkaeglhfajaaREncB
namespace Go.Proofs.Ytjidkaeglhfajaa
open Go.RowKit Go.Shelf

/-- the size and the bytes of the queue that has these bytes as its encoding -/
def decB (bs : List UInt8) : Option (Nat × List UInt8) :=
  match rdBounded 1 4096 bs 0 with
  | none => none
  | some (n, p) =>
    match rdBytes n bs p with
    | none => none
    | some (l, q) => if q < bs.length then none else some (n.toNat, l)
theorem rdBytes_enc {most : Int} {bs : List UInt8} {p : Nat} {l : List UInt8} {q : Nat} (h : rdBytes most bs p = some (l, q)) : (l.length : Int) ≤ most ∧ q = p + (encS l).length ∧ (bs.drop p).take (encS l).length = encS l ∧ q ≤ bs.length := by
  unfold rdBytes at h
  split at h
  · cases h
  · rename_i n q1 hb
    split at h
    · cases h
    · rename_i hs
      cases h
      obtain ⟨b1, b2, b3⟩ := rdBounded_enc hb
      obtain ⟨c1, c2, c3, c4, c5⟩ := rdInt_enc b3
      have hl : ((bs.drop q1).take n.toNat).length = n.toNat := by rw [List.length_take, List.length_drop]; omega
      have hn : ((((bs.drop q1).take n.toNat).length : Nat) : Int) = n := by rw [hl]; omega
      refine ⟨by rw [hl]; omega, ?_, ?_, by omega⟩
      · unfold encS; rw [List.length_append, hn, hl]; omega
      · unfold encS
        rw [hn]
        exact seg_append c3 (by rw [← c2, hl])
theorem decB_enc {bs : List UInt8} {n : Nat} {l : List UInt8} (h : decB bs = some (n, l)) : 0 < n ∧ n ≤ 4096 ∧ l.length ≤ n ∧ encQ n l = bs := by
  unfold decB at h
  split at h
  · cases h
  · rename_i z p hb
    split at h
    · cases h
    · rename_i l1 q hs
      split at h
      · cases h
      · rename_i hq
        cases h
        obtain ⟨b1, b2, b3⟩ := rdBounded_enc hb
        obtain ⟨c1, c2, c3, c4, c5⟩ := rdInt_enc b3
        obtain ⟨d1, d2, d3, d4⟩ := rdBytes_enc hs
        refine ⟨by omega, by omega, by omega, ?_⟩
        have hz : ((z.toNat : Nat) : Int) = z := by omega
        have h1 : (bs.drop 0).take (enc z ++ encS l).length = enc z ++ encS l := seg_append c3 (by rw [← c2]; exact d3)
        unfold encQ
        rw [hz, ← h1, List.drop_zero, List.take_of_length_le]
        rw [List.length_append]
        omega
def DecBP (bs : List UInt8) (w : World) (e : Ending) (w' : World) : Prop :=
  match decB bs with
  | none => e = .returned (.tuple #[.pointer none, .int .i64 4]) ∧ w.grownBy w' none
  | some (n, l) => ∃ g s cs, e = .returned (.tuple #[.pointer (some ⟨g, 0, none⟩), .int .i64 0]) ∧ w.heap.size ≤ g ∧ w.heap.size ≤ s ∧ w.grownBy w' none ∧ IsB w' g s n 0 cs l
set_option maxRecDepth 100000 in
set_option maxHeartbeats 4000000 in
theorem decodeB_any (v : Value) (bs : List UInt8) (w : World) (h : Rd w v bs) (hb : bs.length ≤ 100000) : Calls Try.prog 14 #[v] w (DecBP bs w) := by
  have HRD := Lib.hid (read_any v bs w h (by omega))
  have HBL := Lib.hid hb
  clear h hb
  unfold DecBP
  cases hr : rdBounded 1 4096 bs 0 with
  | none =>
    have hd : decB bs = none := by unfold decB; rw [hr]
    rw [hd]
    go_enter Try.func14, Try.ntmps14
    go_wp2_with fail
    refine HRD.out.mono ?_
    rintro e w1 ⟨b, sl, rfl, hb, hr1, hg1, hs1⟩
    have HG1 := Lib.hid hg1
    have HBB := Lib.hid hb
    have HB1 := Lib.hid (bounded_any b sl bs 0 false w1 1 4096 hr1)
    rw [hr] at HB1
    clear hg1 hr1 hb hs1 hd hr
    go_wp2_with fail
    refine HB1.out.mono ?_
    rintro e w2 ⟨rfl, hr2, hg2⟩
    have HG2 := Lib.hid (gb_new HG1.out hg2 HBB.out)
    have HB2 := Lib.hid (bytes_any b sl bs 0 true w2 0 0 hr2 (Nat.zero_le _) (by omega))
    clear hg2 hr2
    go_wp2_with fail
    refine HB2.out.mono ?_
    rintro e w3 ⟨rfl, hr3, hg3⟩
    have HG3 := Lib.hid (gb_new HG2.out hg3 HBB.out)
    have HE3 := Lib.hid (end_any b sl bs 0 true w3 hr3)
    rw [end_no (.inl rfl)] at HE3
    clear hg3 hr3
    go_wp2_with fail
    refine HE3.out.mono ?_
    rintro e w4 ⟨rfl, m4, rfl⟩
    go_wp2
    go_ret2
    exact ⟨rfl, gb_same HG3.out (gb_drewN _ _ _)⟩
  | some r =>
    obtain ⟨z, p⟩ := r
    obtain ⟨b1, b2, _⟩ := rdBounded_enc hr
    obtain ⟨n, hn⟩ : ∃ n : Nat, z = (n : Int) := ⟨z.toNat, by omega⟩
    subst hn
    cases hs : rdBytes (n : Int) bs p with
    | none =>
      have hd : decB bs = none := by unfold decB; rw [hr]; simp only; rw [hs]
      rw [hd]
      go_enter Try.func14, Try.ntmps14
      go_wp2_with fail
      refine HRD.out.mono ?_
      rintro e w1 ⟨b, sl, rfl, hb, hr1, hg1, hs1⟩
      have HG1 := Lib.hid hg1
      have HBB := Lib.hid hb
      have HB1 := Lib.hid (bounded_any b sl bs 0 false w1 1 4096 hr1)
      rw [hr] at HB1
      clear hg1 hr1 hb hs1 hd hr
      go_wp2_with fail
      refine HB1.out.mono ?_
      rintro e w2 ⟨rfl, hr2, hg2⟩
      have HG2 := Lib.hid (gb_new HG1.out hg2 HBB.out)
      have HB2 := Lib.hid (bytes_any b sl bs p false w2 (n : Int) 0 hr2 (Nat.zero_le _) (by omega))
      rw [hs] at HB2
      clear hg2 hr2 hs
      go_wp2_with fail
      refine HB2.out.mono ?_
      rintro e w3 ⟨rfl, hr3, hg3⟩
      have HG3 := Lib.hid (gb_new HG2.out hg3 HBB.out)
      have HE3 := Lib.hid (end_any b sl bs p true w3 hr3)
      rw [end_no (.inl rfl)] at HE3
      clear hg3 hr3
      go_wp2_with fail
      refine HE3.out.mono ?_
      rintro e w4 ⟨rfl, m4, rfl⟩
      go_wp2
      go_ret2
      exact ⟨rfl, gb_same HG3.out (gb_drewN _ _ _)⟩
    | some r2 =>
      obtain ⟨l, q⟩ := r2
      have hll := (rdBytes_enc hs).1
      by_cases hq : q < bs.length
      · have hd : decB bs = none := by unfold decB; rw [hr]; simp only; rw [hs]; simp only; rw [if_pos hq]
        rw [hd]
        go_enter Try.func14, Try.ntmps14
        go_wp2_with fail
        refine HRD.out.mono ?_
        rintro e w1 ⟨b, sl, rfl, hb, hr1, hg1, hs1⟩
        have HG1 := Lib.hid hg1
        have HBB := Lib.hid hb
        have HB1 := Lib.hid (bounded_any b sl bs 0 false w1 1 4096 hr1)
        rw [hr] at HB1
        clear hg1 hr1 hb hs1 hd hr
        go_wp2_with fail
        refine HB1.out.mono ?_
        rintro e w2 ⟨rfl, hr2, hg2⟩
        have HG2 := Lib.hid (gb_new HG1.out hg2 HBB.out)
        have HB2 := Lib.hid (bytes_any b sl bs p false w2 (n : Int) 0 hr2 (Nat.zero_le _) (by omega))
        rw [hs] at HB2
        clear hg2 hr2 hs
        go_wp2_with fail
        refine HB2.out.mono ?_
        rintro e w3 ⟨v3, rfl, ho3, hr3, hg3⟩
        have HG3 := Lib.hid (gb_new HG2.out hg3 HBB.out)
        have HE3 := Lib.hid (end_any b sl bs q false w3 hr3)
        rw [end_no (.inr hq)] at HE3
        clear hg3 hr3 ho3 hq
        go_wp2_with fail
        refine HE3.out.mono ?_
        rintro e w4 ⟨rfl, m4, rfl⟩
        go_wp2
        go_ret2
        exact ⟨rfl, gb_same HG3.out (gb_drewN _ _ _)⟩
      · have hd : decB bs = some (n, l) := by unfold decB; rw [hr]; simp only; rw [hs]; simp only; rw [if_neg hq]; rfl
        rw [hd]
        go_enter Try.func14, Try.ntmps14
        go_wp2_with fail
        refine HRD.out.mono ?_
        rintro e w1 ⟨b, sl, rfl, hb, hr1, hg1, hs1⟩
        have HG1 := Lib.hid hg1
        have HBB := Lib.hid hb
        have HB1 := Lib.hid (bounded_any b sl bs 0 false w1 1 4096 hr1)
        rw [hr] at HB1
        clear hg1 hr1 hb hs1 hd hr
        go_wp2_with fail
        refine HB1.out.mono ?_
        rintro e w2 ⟨rfl, hr2, hg2⟩
        have HG2 := Lib.hid (gb_new HG1.out hg2 HBB.out)
        have HB2 := Lib.hid (bytes_any b sl bs p false w2 (n : Int) 0 hr2 (Nat.zero_le _) (by omega))
        rw [hs] at HB2
        clear hg2 hr2 hs
        go_wp2_with fail
        refine HB2.out.mono ?_
        rintro e w3 ⟨v3, rfl, ho3, hr3, hg3⟩
        have HG3 := Lib.hid (gb_new HG2.out hg3 HBB.out)
        have HO3 := Lib.hid ho3
        have HE3 := Lib.hid (end_any b sl bs q false w3 hr3)
        rw [end_yes (by simp; omega)] at HE3
        clear hg3 hr3 ho3 hq
        go_wp2_with fail
        refine HE3.out.mono ?_
        rintro e w4 ⟨rfl, m4, hw4⟩
        have hg4 : w3.grownBy w4 none := by rw [hw4]; exact gb_drewN _ _ _
        have HO4 := Lib.hid (HO3.out.grown hg4)
        have HG4 := Lib.hid (gb_same HG3.out hg4)
        have HNN : Hid (0 < n ∧ n ≤ 4096 ∧ l.length ≤ n) := Lib.hid ⟨by omega, by omega, by omega⟩
        clear hg4 hw4
        go_wp2_with ((with_reducible refine mk_step rfl _ _ rfl n rfl rfl (by omega) ?_); go_must (intro w5 ho5 hg5; have HO5 := Lib.hid ho5; have HG5 := Lib.hid hg5; clear ho5 hg5))
        have hbx := newB_box HNN.out.1 HNN.out.2.1 HO5.out
        have hv3 := (HO4.out.grown HG5.out).grown (gb_alloc w5 (.cells #[.slice (some ⟨w4.heap.size, 0, none⟩) n n, .int .i64 0, .int .i64 0] 84) none)
        have hgx := gb_same (gb_same HG4.out HG5.out) (gb_alloc w5 (.cells #[.slice (some ⟨w4.heap.size, 0, none⟩) n n, .int .i64 0, .int .i64 0] 84) none)
        have HZ := Lib.hid (show w.heap.size ≤ w4.heap.size ∧ w4.heap.size ≤ w5.heap.size from ⟨HG4.out.size, HG5.out.size⟩)
        refine (put_any hbx v3 l hv3.rd.w (fun _ k hk => by have := (HO4.out.lt k hk).2; have := HZ.out; omega)).mono ?_
        rintro e w6 ⟨rfl, hk6, cs6, hq6⟩
        have e1 : putN n [] l = l.length := by unfold putN; have := HNN.out; simp; omega
        rw [e1, List.nil_append, List.take_length] at hq6
        have HQ6 := Lib.hid hq6
        have HG6 := Lib.hid (K2.new hgx (by have := HZ.out; omega) HZ.out.1 hk6)
        clear hk6 hq6 hbx hv3 hgx e1
        go_wp2
        go_ret2
        exact ⟨_, _, _, rfl, by have := HZ.out; omega, HZ.out.1, HG6.out, HQ6.out⟩
end Go.Proofs.Ytjidkaeglhfajaa
