/-
  More small laws on readable rows (bytes and one-cell values), and the post of a law.
-/
import Derived.Test.YtfldooljmjeaoaaBase
import Derived.Laws.OwnMore
namespace Go.Proofs.Ytfldooljmjeaoaa
open Go.RowKit

theorem Rd.len {w : World} {v : Value} {l : List UInt8} (h : Rd w v l) : ∃ a c, v = .slice a l.length c := by
  rcases h with ⟨rfl, rfl⟩ | ⟨b, off, cap, rfl, _⟩
  · exact ⟨none, 0, rfl⟩
  · exact ⟨_, _, rfl⟩
theorem Rd.at {w : World} {a : Option Addr} {n c : Nat} {l : List UInt8} (h : Rd w (.slice a n c) l) {j : Nat} {x : UInt8} (hj : l[j]? = some x) : ∃ b off, a = some ⟨b, off, none⟩ ∧ w.cell? ⟨b, off + j, none⟩ = some (.int .u8 (x.toNat : Int)) := by
  rcases h with ⟨_, rfl⟩ | ⟨b, off, cap, h0, h1, h2, h3⟩
  · simp at hj
  · simp only [Value.slice.injEq] at h0
    exact ⟨b, off, h0.1, h3 j x hj⟩
theorem Rd.small {w : World} {v : Value} {l : List UInt8} (h : Rd w v l) : (l.length : Int) ≤ 9223372036854775807 := by
  rcases h with ⟨rfl, rfl⟩ | ⟨b, off, cap, rfl, h1, h2, _⟩
  · simp
  · simp only [maxLen] at h2; omega
theorem Rd.blk {w : World} {v : Value} {l : List UInt8} (h : Rd w v l) (hl : l ≠ []) : ∀ k, v.ownBlock = some k → k < w.heap.size := by
  intro k hk
  rcases h with ⟨rfl, _⟩ | ⟨b, off, cap, rfl, h1, h2, h3⟩
  · simp [Value.ownBlock] at hk
  · simp only [Value.ownBlock, Option.some.injEq] at hk
    subst hk
    cases l with
    | nil => exact absurd rfl hl
    | cons x xs => exact World.block_lt_of_cell? _ _ (h3 0 x rfl)
theorem Rd.emptyAt (w : World) (g off cap : Nat) (h2 : cap ≤ maxLen) : Rd w (.slice (some ⟨g, off, none⟩) 0 cap) [] :=
  .inr ⟨g, off, cap, rfl, by simp, h2, fun j x hj => by simp at hj⟩

theorem Own.lit (w : World) (cs : Array Value) (l : List UInt8) (n B : Nat) (hcs : cs.toList = bvs l) (hn : l.length = n) (hB : B ≤ w.heap.size) (hm : n ≤ maxLen) :
    Own (w.alloc (.cells cs 5)) B (.slice (some ⟨w.heap.size, 0, none⟩) n n) l := by
  have hs : cs.size = n * 1 := by rw [← Array.length_toList, hcs, bvs_length]; omega
  have := World.ownsRow_lit (e := 5) (size := 1) w cs n hB hm hs
  unfold Own
  rw [hcs] at this
  rw [hn]
  exact this
theorem Rd.lit (w : World) (cs : Array Value) (l : List UInt8) (n : Nat) (hcs : cs.toList = bvs l) (hn : l.length = n) (hm : n ≤ maxLen) :
    Rd (w.alloc (.cells cs 5)) (.slice (some ⟨w.heap.size, 0, none⟩) n n) l := (Own.lit w cs l n 0 hcs hn (Nat.zero_le _) hm).rd

theorem Own.at {w : World} {B : Nat} {v : Value} {l : List UInt8} (h : Own w B v l) (hl : l ≠ []) : ∃ g cap, v = .slice (some ⟨g, 0, none⟩) l.length cap ∧ B ≤ g ∧ g < w.heap.size := by
  have h0 := h
  obtain ⟨h1, h2⟩ := h
  rcases h2 with ⟨rfl, hn⟩ | ⟨g, cap, cur, rfl, hb, hg, _⟩
  · exact absurd (List.eq_nil_of_length_eq_zero hn) hl
  · exact ⟨g, cap, rfl, hb, (Array.getElem?_eq_some_iff.1 hg).1⟩
theorem bvs_set (l : List UInt8) (j : Nat) (x : UInt8) : (bvs l).set j (bv x) = bvs (l.set j x) := by unfold bvs; rw [List.map_set]
theorem Own.set {w : World} {B g n cap : Nat} {l : List UInt8} (h : Own w B (.slice (some ⟨g, 0, none⟩) n cap) l) (hn : l.length = n) (j : Nat) (x : UInt8) : Own (w.setCell ⟨g, j, none⟩ (bv x)) B (.slice (some ⟨g, 0, none⟩) n cap) (l.set j x) := by
  unfold Own at h ⊢
  rw [hn] at h
  have := (World.ownsRow.stored h j (bv x)).1
  rw [bvs_set] at this
  rwa [List.length_set, hn]
theorem Own.cellAt {w : World} {B g n cap : Nat} {l : List UInt8} (h : Own w B (.slice (some ⟨g, 0, none⟩) n cap) l) (hn : l.length = n) (j : Nat) (x : UInt8) (hj : l[j]? = some x) : w.cell? ⟨g, j, none⟩ = some (.int .u8 (x.toNat : Int)) := by
  unfold Own at h
  rw [hn] at h
  have hlt : j < n := by rw [← hn]; exact (List.getElem?_eq_some_iff.1 hj).1
  rw [World.ownsRow.cellAt h j (by omega), bvs_get, hj]
  rfl
theorem Own.frozenAt {w : World} {B g n cap : Nat} {l : List UInt8} (h : Own w B (.slice (some ⟨g, 0, none⟩) n cap) l) (hn : l.length = n) (j : Nat) : w.frozen? ⟨g, j, none⟩ = false := by
  unfold Own at h
  rw [hn] at h
  exact World.ownsRow.frozenAt h j

/-- a slice of one-cell values that can be read -/
def RdL (w : World) (v : Value) (vs : List Value) : Prop :=
  (v = .slice none 0 0 ∧ vs = []) ∨ ∃ b off cap, v = .slice (some ⟨b, off, none⟩) vs.length cap ∧ vs.length ≤ cap ∧ cap ≤ maxLen ∧ ∀ (j : Nat) (x : Value), vs[j]? = some x → w.cell? ⟨b, off + j, none⟩ = some x
theorem RdL.kept {w w' : World} {v : Value} {vs : List Value} {row : Option Nat} (h : RdL w v vs) (hg : w.grownBy w' row) (hne : vs ≠ [] → ∀ k, v.ownBlock = some k → row ≠ some k) : RdL w' v vs := by
  rcases h with h | ⟨b, off, cap, rfl, h1, h2, h3⟩
  · exact .inl h
  · refine .inr ⟨b, off, cap, rfl, h1, h2, fun j x hj => ?_⟩
    exact hg.cell (h3 j x hj) (fun e => hne (by rintro rfl; simp at hj) b rfl (by simpa using e.symm))
theorem RdL.grown {w w' : World} {v : Value} {vs : List Value} (h : RdL w v vs) (hg : w.grownBy w' none) : RdL w' v vs := h.kept hg (by simp)
theorem RdL.len {w : World} {v : Value} {vs : List Value} (h : RdL w v vs) : ∃ a c, v = .slice a vs.length c := by
  rcases h with ⟨rfl, rfl⟩ | ⟨b, off, cap, rfl, _⟩
  · exact ⟨none, 0, rfl⟩
  · exact ⟨_, _, rfl⟩
theorem RdL.at {w : World} {a : Option Addr} {n c : Nat} {vs : List Value} (h : RdL w (.slice a n c) vs) {j : Nat} {x : Value} (hj : vs[j]? = some x) : ∃ b off, a = some ⟨b, off, none⟩ ∧ w.cell? ⟨b, off + j, none⟩ = some x := by
  rcases h with ⟨_, rfl⟩ | ⟨b, off, cap, h0, h1, h2, h3⟩
  · simp at hj
  · simp only [Value.slice.injEq] at h0
    exact ⟨b, off, h0.1, h3 j x hj⟩
def ivs (zs : List Int) : List Value := zs.map (.int .i64)


def str (l : List UInt8) : ByteArray := ⟨l.toArray⟩
theorem str_toList (l : List UInt8) : (str l).data.toList = l := rfl
theorem str_size (l : List UInt8) : (str l).size = l.length := by simp [str, ByteArray.size]
theorem str_nums (l : List UInt8) : strOfNums (l.map fun x => (x.toNat : Int)) = str l := by
  unfold strOfNums str
  congr 2
  rw [List.map_map]
  conv => rhs; rw [← List.map_id l]
  apply List.map_congr_left
  intro x _
  simp
/-- string(b) -/
theorem run_toString (w : World) (v : Value) (l : List UInt8) (h : Rd w v l) :
    (convert 22 9 v).run Try.prog w = .ok (.string (str l)) w := by
  rcases h with ⟨rfl, rfl⟩ | ⟨b, off, cap, rfl, h1, h2, h3⟩
  · exact run_convert_bytes_nil w _ _ Try.underlying22 Try.underlying5 0 0 _ Try.underlying9
  · have := run_convert_bytes_arg (P := Try.prog) w 22 5 Try.underlying22 Try.underlying5 b off l.length cap (l.map fun x => (x.toNat : Int)) (by simp) (fun i hi => by
      rw [h3 i l[i] (by simp [hi])]
      simp [bv, List.getD, hi]) 9 Try.underlying9
    rw [this, str_nums]

def BoolQ (t : Bool) (w : World) (e : Ending) (w' : World) : Prop := e = .returned (.bool t) ∧ w.grownBy w' none
end Go.Proofs.Ytfldooljmjeaoaa
