/-
  ring.DecodeBytes and the reference's DecodeBytes: the walks.
-/
import Derived.Test.YtfldooljmjeaoaaRQB
import Derived.Test.YtfldooljmjeaoaaREncB
namespace Go.Proofs.Ytfldooljmjeaoaa
open Go.RowKit Go.Shelf

/-- the size and the bytes of the queue that has these bytes as its encoding -/
def decB (bs : List UInt8) : Option (Nat × List UInt8) :=
  match rdBounded 1 4096 bs 0 with
  | none => none
  | some (n, p) =>
    match rdBytes n bs p with
    | none => none
    | some (l, q) => if q < bs.length then none else some (n.toNat, l)
theorem rdBytes_enc {most : Int} {bs : List UInt8} {p : Nat} {l : List UInt8} {q : Nat} (h : rdBytes most bs p = some (l, q)) : (l.length : Int) ≤ most ∧ q = p + (encS l).length ∧ (bs.drop p).take (encS l).length = encS l ∧ q ≤ bs.length := by
  unfold rdBytes at h
  split at h
  · cases h
  · rename_i n q1 hb
    split at h
    · cases h
    · rename_i hs
      cases h
      obtain ⟨b1, b2, b3⟩ := rdBounded_enc hb
      obtain ⟨c1, c2, c3, c4, c5⟩ := rdInt_enc b3
      have hl : ((bs.drop q1).take n.toNat).length = n.toNat := by rw [List.length_take, List.length_drop]; omega
      have hn : ((((bs.drop q1).take n.toNat).length : Nat) : Int) = n := by rw [hl]; omega
      refine ⟨by rw [hl]; omega, ?_, ?_, by omega⟩
      · unfold encS; rw [List.length_append, hn, hl]; omega
      · unfold encS
        rw [hn]
        exact seg_append c3 (by rw [← c2, hl])
theorem decB_enc {bs : List UInt8} {n : Nat} {l : List UInt8} (h : decB bs = some (n, l)) : 0 < n ∧ n ≤ 4096 ∧ l.length ≤ n ∧ encQ n l = bs := by
  unfold decB at h
  split at h
  · cases h
  · rename_i z p hb
    split at h
    · cases h
    · rename_i l1 q hs
      split at h
      · cases h
      · rename_i hq
        cases h
        obtain ⟨b1, b2, b3⟩ := rdBounded_enc hb
        obtain ⟨c1, c2, c3, c4, c5⟩ := rdInt_enc b3
        obtain ⟨d1, d2, d3, d4⟩ := rdBytes_enc hs
        refine ⟨by omega, by omega, by omega, ?_⟩
        have hz : ((z.toNat : Nat) : Int) = z := by omega
        have h1 : (bs.drop 0).take (enc z ++ encS l).length = enc z ++ encS l := seg_append c3 (by rw [← c2]; exact d3)
        unfold encQ
        rw [hz, ← h1, List.drop_zero, List.take_of_length_le]
        rw [List.length_append]
        omega
def DecBP (bs : List UInt8) (w : World) (e : Ending) (w' : World) : Prop :=
  match decB bs with
  | none => e = .returned (.tuple #[.pointer none, .int .i64 4]) ∧ w.grownBy w' none
  | some (n, l) => ∃ g s cs, e = .returned (.tuple #[.pointer (some ⟨g, 0, none⟩), .int .i64 0]) ∧ w.heap.size ≤ g ∧ w.heap.size ≤ s ∧ w.grownBy w' none ∧ IsB w' g s n 0 cs l
end Go.Proofs.Ytfldooljmjeaoaa
