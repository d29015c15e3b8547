/-
  A byte queue in memory: its block and its row of places.
-/
import Derived.Test.YtfldooljmjeaoaaRow
import Derived.Test.YtfldooljmjeaoaaLaw
namespace Go.Proofs.Ytfldooljmjeaoaa
open Go.RowKit

def OkI (n : Int) : Prop := -9223372036854775808 ≤ n ∧ n ≤ 9223372036854775807
def NumG (n : Int) (w : World) (e : Ending) (w' : World) : Prop := e = .returned (.int .i64 n) ∧ w.grownBy w' none
def NumS (n : Int) (w : World) (e : Ending) (w' : World) : Prop := e = .returned (.int .i64 n) ∧ w = w'
def RetS (v : Value) (w : World) (e : Ending) (w' : World) : Prop := e = .returned v ∧ w = w'

theorem mod_if {f i n : Nat} (hf : f < n) (hi : i ≤ n) : (f + i) % n = if f + i < n then f + i else f + i - n := by
  split
  · exact Nat.mod_eq_of_lt (by omega)
  · rw [Nat.mod_eq_sub_mod (by omega)]
    exact Nat.mod_eq_of_lt (by omega)
theorem mod_ne {f i j n : Nat} (hf : f < n) (hij : i < j) (hj : j < n) : (f + i) % n ≠ (f + j) % n := by
  rw [mod_if hf (by omega), mod_if hf (by omega)]
  split <;> split <;> omega
theorem mod_add {f i j n : Nat} : ((f + i) % n + j) % n = (f + (i + j)) % n := by
  rw [Nat.mod_add_mod, Nat.add_assoc]

/-- a byte queue of the program -/
structure IsB (w : World) (g s n f : Nat) (cs l : List UInt8) : Prop where
  blk : w.heap[g]? = some (.cells #[.slice (some ⟨s, 0, none⟩) n n, .int .i64 (f : Int), .int .i64 (l.length : Int)] 78 (0, 0))
  row : Own w 0 (.slice (some ⟨s, 0, none⟩) n n) cs
  ne : g ≠ s
  clen : cs.length = n
  fst : f < n
  cnt : l.length ≤ n
  held : ∀ (i : Nat) (c : UInt8), l[i]? = some c → cs[(f + i) % n]? = some c
  le : n ≤ 4096

theorem IsB.kept {w w' : World} {g s n f : Nat} {cs l : List UInt8} {row : Option Nat} (h : IsB w g s n f cs l) (hg : w.grownBy w' row) (h1 : row ≠ some g) (h2 : row ≠ some s) : IsB w' g s n f cs l :=
  ⟨blk_kept' h.blk hg h1, h.row.kept hg (fun k e => by cases e; exact h2), h.ne, h.clen, h.fst, h.cnt, h.held, h.le⟩
theorem IsB.grown {w w' : World} {g s n f : Nat} {cs l : List UInt8} (h : IsB w g s n f cs l) (hg : w.grownBy w' none) : IsB w' g s n f cs l := h.kept hg (by simp) (by simp)
theorem IsB.c0 {w : World} {g s n f : Nat} {cs l : List UInt8} (h : IsB w g s n f cs l) : w.cell? ⟨g, 0, none⟩ = some (.slice (some ⟨s, 0, none⟩) n n) := cell_row h.blk
theorem IsB.c1 {w : World} {g s n f : Nat} {cs l : List UInt8} (h : IsB w g s n f cs l) : w.cell? ⟨g, 1, none⟩ = some (.int .i64 (f : Int)) := cell_row h.blk
theorem IsB.c2 {w : World} {g s n f : Nat} {cs l : List UInt8} (h : IsB w g s n f cs l) : w.cell? ⟨g, 2, none⟩ = some (.int .i64 (l.length : Int)) := cell_row h.blk
theorem IsB.lt {w : World} {g s n f : Nat} {cs l : List UInt8} (h : IsB w g s n f cs l) : g < w.heap.size ∧ s < w.heap.size := ⟨(Array.getElem?_eq_some_iff.1 h.blk).1, (h.row.lt s rfl).2⟩
theorem IsB.at {w : World} {g s n f : Nat} {cs l : List UInt8} (h : IsB w g s n f cs l) {i : Nat} {c : UInt8} (hi : l[i]? = some c) : w.cell? ⟨s, (f + i) % n, none⟩ = some (.int .u8 (c.toNat : Int)) :=
  h.row.cellAt h.clen _ _ (h.held i c hi)
theorem IsB.frozen {w : World} {g s n f : Nat} {cs l : List UInt8} (h : IsB w g s n f cs l) (j : Nat) : w.frozen? ⟨s, j, none⟩ = false := h.row.frozenAt h.clen j
theorem IsB.frozenB {w : World} {g s n f : Nat} {cs l : List UInt8} (h : IsB w g s n f cs l) (j : Nat) : w.frozen? ⟨g, j, none⟩ = false := by simp [World.frozen?, h.blk]

/-- a store into the block -/
theorem blk_set {w : World} {g : Nat} {cs : Array Value} {t : TypeId} (h : w.heap[g]? = some (.cells cs t (0, 0))) (j : Nat) (u : Value) : (w.setCell ⟨g, j, none⟩ u).heap[g]? = some (.cells (cs.setIfInBounds j u) t (0, 0)) := by
  simp [World.setCell, Array.getElem?_modify, h]

/-- a byte behind the held ones, and then the count -/
theorem IsB.push {w : World} {g s n f : Nat} {cs l : List UInt8} (h : IsB w g s n f cs l) (c : UInt8) (hr : l.length < n) :
    IsB ((w.setCell ⟨s, (f + l.length) % n, none⟩ (bv c)).setCell ⟨g, 2, none⟩ (.int .i64 ((l.length : Int) + 1))) g s n f (cs.set ((f + l.length) % n) c) (l ++ [c]) := by
  have hb : (w.setCell ⟨s, (f + l.length) % n, none⟩ (bv c)).heap[g]? = _ := blk_kept' h.blk (gb_setCell _ _ _) (by have := h.ne; simp; omega)
  refine ⟨?_, ?_, h.ne, by rw [List.length_set]; exact h.clen, h.fst, by simp; omega, ?_, h.le⟩
  · rw [blk_set hb]; simp
  · exact (h.row.set h.clen _ c).kept (gb_setCell _ _ _) (fun k e => by cases e; have := h.ne; simp; omega)
  · intro i d hi
    have hn : (f + l.length) % n < cs.length := by rw [h.clen]; exact Nat.mod_lt _ (by have := h.fst; omega)
    rcases Nat.lt_or_ge i l.length with hil | hil
    · rw [List.getElem?_append_left hil] at hi
      rw [List.getElem?_set_ne (fun e => mod_ne h.fst hil hr e.symm)]
      exact h.held i d hi
    · have hlt := (List.getElem?_eq_some_iff.1 hi).1
      simp at hlt
      obtain rfl : i = l.length := by omega
      rw [List.getElem?_append_right (Nat.le_refl _), Nat.sub_self] at hi
      simp at hi
      subst hi
      simp [hn]
/-- the first bytes away -/
theorem IsB.pop {w : World} {g s n f : Nat} {cs l : List UInt8} (h : IsB w g s n f cs l) (k : Nat) (hk : k ≤ l.length) :
    IsB ((w.setCell ⟨g, 1, none⟩ (.int .i64 (((f + k) % n : Nat) : Int))).setCell ⟨g, 2, none⟩ (.int .i64 ((l.length : Int) - (k : Int)))) g s n ((f + k) % n) cs (l.drop k) := by
  have hb := blk_set h.blk 1 (.int .i64 (((f + k) % n : Nat) : Int))
  refine ⟨?_, ?_, h.ne, h.clen, Nat.mod_lt _ (by have := h.fst; omega), by rw [List.length_drop]; have := h.cnt; omega, ?_, h.le⟩
  · rw [blk_set hb]
    have e : ((l.length : Int) - (k : Int)) = ((l.drop k).length : Int) := by rw [List.length_drop]; omega
    rw [e]
    simp
  · exact (h.row.kept (gb_setCell _ _ _) (fun k e => by cases e; have := h.ne; simp; omega)).kept (gb_setCell _ _ _) (fun k e => by cases e; have := h.ne; simp; omega)
  · intro i d hi
    rw [List.getElem?_drop] at hi
    rw [mod_add]
    exact h.held (k + i) d hi
/-- all old blocks but two are as they were -/
structure K2 (w w' : World) (g s : Nat) : Prop where
  os : w'.os = w.os
  tape : w'.tape = w.tape
  output : w'.output = w.output
  size : w.heap.size ≤ w'.heap.size
  block : ∀ k, k < w.heap.size → k ≠ g → k ≠ s → w'.heap[k]? = w.heap[k]?
theorem K2.of {w w' : World} {row : Option Nat} {g s : Nat} (h : w.grownBy w' row) (hr : row = none ∨ row = some g ∨ row = some s) : K2 w w' g s :=
  ⟨h.os, h.tape, h.output, h.size, fun k hk h1 h2 => h.block k hk (fun e => by rcases hr with hr | hr | hr <;> subst hr <;> simp_all)⟩
theorem K2.refl (w : World) (g s : Nat) : K2 w w g s := K2.of (gb_refl w none) (.inl rfl)
theorem K2.trans {w w1 w2 : World} {g s : Nat} (h : K2 w w1 g s) (k : K2 w1 w2 g s) : K2 w w2 g s :=
  ⟨k.os.trans h.os, k.tape.trans h.tape, k.output.trans h.output, Nat.le_trans h.size k.size, fun i hi h1 h2 => (k.block i (Nat.lt_of_lt_of_le hi h.size) h1 h2).trans (h.block i hi h1 h2)⟩
theorem K2.new {w0 w w' : World} {g s : Nat} {row : Option Nat} (h : w0.grownBy w row) (hg : w0.heap.size ≤ g) (hs : w0.heap.size ≤ s) (k : K2 w w' g s) : w0.grownBy w' row :=
  ⟨k.os.trans h.os, k.tape.trans h.tape, k.output.trans h.output, Nat.le_trans h.size k.size, fun i hi hne => (k.block i (Nat.lt_of_lt_of_le hi h.size) (by omega) (by omega)).trans (h.block i hi hne)⟩
theorem K2.rd {w w' : World} {g s : Nat} {v : Value} {l : List UInt8} (h : Rd w v l) (k : K2 w w' g s) (hne : ∀ b, v.ownBlock = some b → b ≠ g ∧ b ≠ s) : Rd w' v l := by
  rcases h with h | ⟨b, off, cap, rfl, h1, h2, h3⟩
  · exact .inl h
  · refine .inr ⟨b, off, cap, rfl, h1, h2, fun j x hj => ?_⟩
    have h4 := h3 j x hj
    have h5 : b < w.heap.size := World.block_lt_of_cell? _ _ h4
    obtain ⟨n1, n2⟩ := hne b rfl
    unfold World.cell? at h4 ⊢
    rw [k.block b h5 n1 n2]; exact h4
theorem K2.own {w w' : World} {g s B : Nat} {v : Value} {l : List UInt8} (h : Own w B v l) (k : K2 w w' g s) (hne : ∀ b, v.ownBlock = some b → b ≠ g ∧ b ≠ s) : Own w' B v l := by
  obtain ⟨h1, h2⟩ := h
  refine ⟨h1, ?_⟩
  rcases h2 with h2 | ⟨b, cap, cur, rfl, hb, hg, h3⟩
  · exact .inl h2
  · obtain ⟨n1, n2⟩ := hne b rfl
    exact .inr ⟨b, cap, cur, rfl, hb, by rw [k.block b (Array.getElem?_eq_some_iff.1 hg).1 n1 n2]; exact hg, h3⟩
theorem IsB.k2 {w w' : World} {g s n f g2 s2 : Nat} {cs l : List UInt8} (h : IsB w g s n f cs l) (k : K2 w w' g2 s2) (h1 : g ≠ g2) (h2 : g ≠ s2) (h3 : s ≠ g2) (h4 : s ≠ s2) : IsB w' g s n f cs l :=
  ⟨by rw [k.block g h.lt.1 h1 h2]; exact h.blk, K2.own h.row k (fun b e => by cases e; exact ⟨h3, h4⟩), h.ne, h.clen, h.fst, h.cnt, h.held, h.le⟩
end Go.Proofs.Ytfldooljmjeaoaa
