/-
  wire.Reader: its state in memory; Left, End, Fail; Clone, Read.
-/
import Derived.Test.YtgfopepopcacmaaStr
import Derived.Deep.QuietTactic
import Derived.BigQuiet
namespace Go.Proofs.Ytgfopepopcacmaa
open Go.RowKit

/-- a reader in memory: bytes, position, failed -/
structure IsR (w : World) (b : Nat) (sl : Value) (bs : List UInt8) (p : Nat) (f : Bool) : Prop where
  blk : w.heap[b]? = some (.cells #[sl, .int .i64 (p : Int), .bool f] 90 (0, 0))
  rd : Rd w sl bs
  ne : sl.ownBlock ≠ some b
  le : p ≤ bs.length
  sm : bs.length ≤ 1099511627776

theorem IsR.lt {w : World} {b : Nat} {sl : Value} {bs : List UInt8} {p : Nat} {f : Bool} (h : IsR w b sl bs p f) : b < w.heap.size := lt_of_block h.blk
theorem IsR.c0 {w : World} {b : Nat} {sl : Value} {bs : List UInt8} {p : Nat} {f : Bool} (h : IsR w b sl bs p f) : w.cell? ⟨b, 0, none⟩ = some sl := by simp [World.cell?, h.blk]
theorem IsR.c1 {w : World} {b : Nat} {sl : Value} {bs : List UInt8} {p : Nat} {f : Bool} (h : IsR w b sl bs p f) : w.cell? ⟨b, 1, none⟩ = some (.int .i64 (p : Int)) := by simp [World.cell?, h.blk]
theorem IsR.c2 {w : World} {b : Nat} {sl : Value} {bs : List UInt8} {p : Nat} {f : Bool} (h : IsR w b sl bs p f) : w.cell? ⟨b, 2, none⟩ = some (.bool f) := by simp [World.cell?, h.blk]
theorem IsR.fr {w : World} {b : Nat} {sl : Value} {bs : List UInt8} {p : Nat} {f : Bool} (h : IsR w b sl bs p f) (j : Nat) : w.frozen? ⟨b, j, none⟩ = false := frozen_of_row w b j _ _ h.blk
theorem IsR.kept {w w' : World} {b : Nat} {sl : Value} {bs : List UInt8} {p : Nat} {f : Bool} {row : Option Nat} (h : IsR w b sl bs p f) (hg : w.grownBy w' row) (h1 : row ≠ some b) (h2 : ∀ k, sl.ownBlock = some k → row ≠ some k) : IsR w' b sl bs p f :=
  ⟨by rw [hg.block b h.lt (fun e => h1 e.symm)]; exact h.blk, h.rd.kept hg h2, h.ne, h.le, h.sm⟩
theorem IsR.grown {w w' : World} {b : Nat} {sl : Value} {bs : List UInt8} {p : Nat} {f : Bool} (h : IsR w b sl bs p f) (hg : w.grownBy w' none) : IsR w' b sl bs p f := h.kept hg (by simp) (by simp)
theorem IsR.setP {w : World} {b : Nat} {sl : Value} {bs : List UInt8} {p : Nat} {f : Bool} (h : IsR w b sl bs p f) (q : Nat) (hq : q ≤ bs.length) : IsR (w.setCell ⟨b, 1, none⟩ (.int .i64 (q : Int))) b sl bs q f :=
  ⟨by rw [heap_setCell_same w b 1 _ _ _ h.blk]; rfl, h.rd.kept (gb_setCell _ _ _) (fun k hk e => h.ne (by rw [hk]; simpa using e.symm)), h.ne, hq, h.sm⟩
theorem IsR.setF {w : World} {b : Nat} {sl : Value} {bs : List UInt8} {p : Nat} {f : Bool} (h : IsR w b sl bs p f) (g : Bool) : IsR (w.setCell ⟨b, 2, none⟩ (.bool g)) b sl bs p g :=
  ⟨by rw [heap_setCell_same w b 2 _ _ _ h.blk]; rfl, h.rd.kept (gb_setCell _ _ _) (fun k hk e => h.ne (by rw [hk]; simpa using e.symm)), h.ne, h.le, h.sm⟩

def Quiet (v : Value) (w : World) (e : Ending) (w' : World) : Prop := e = .returned v ∧ ∃ n, w' = w.drewN n
def lenOf (v : Value) : Int := match v with | .slice _ n _ => n | _ => 0
theorem Rd.len {w : World} {v : Value} {l : List UInt8} (h : Rd w v l) : ∃ a c, v = .slice a l.length c := by
  rcases h with ⟨rfl, rfl⟩ | ⟨b, off, cap, rfl, _⟩
  · exact ⟨none, 0, rfl⟩
  · exact ⟨_, _, rfl⟩

set_option maxHeartbeats 400000 in
theorem left_any (b : Nat) (sl : Value) (bs : List UInt8) (p : Nat) (f : Bool) (w : World) (h : IsR w b sl bs p f) :
    Calls Try.prog 13 #[.pointer (some ⟨b, 0, none⟩)] w (Quiet (.int .i64 ((bs.length - p : Nat) : Int)) w) := by
  obtain ⟨a, c, rfl⟩ := h.rd.len
  have c0 := h.c0
  have c1 := h.c1
  have hle := h.le
  have hsm := h.sm
  clear h
  go_enter Try.func13, Try.ntmps13
  go_wp2
  go_quiet (fail)
  go_wp2
  go_ret
  exact ⟨by show Ending.returned (Value.int .i64 _) = _; congr 2; omega, nq, rfl⟩

def endOf (f : Bool) (bs : List UInt8) (p : Nat) : Int := if f = true ∨ p < bs.length then 4 else 0

set_option maxHeartbeats 400000 in
theorem end_any (b : Nat) (sl : Value) (bs : List UInt8) (p : Nat) (f : Bool) (w : World) (h : IsR w b sl bs p f) :
    Calls Try.prog 14 #[.pointer (some ⟨b, 0, none⟩)] w (Quiet (.int .i64 (endOf f bs p)) w) := by
  have HL := Lib.hid (left_any b sl bs p f w h)
  have c2 := h.c2
  cases f with
  | true =>
    have e1 : endOf true bs p = 4 := by simp [endOf]
    rw [e1]
    clear h e1
    go_enter Try.func14, Try.ntmps14
    go_wp2
    go_ret
    exact ⟨rfl, 0, rfl⟩
  | false =>
    by_cases hp : p < bs.length
    · have e1 : endOf false bs p = 4 := by simp [endOf, hp]
      have e2 : decide ((0 : Int) < ((bs.length - p : Nat) : Int)) = true := by simp; omega
      rw [e1]
      clear h e1
      go_enter Try.func14, Try.ntmps14
      go_wp2_with (go_at_call 13; refine HL.out.mono ?_; rintro e w1 ⟨rfl, nq, rfl⟩)
      go_ret
      exact ⟨rfl, nq, rfl⟩
    · have e1 : endOf false bs p = 0 := by simp [endOf, hp]
      have e2 : (bs.length - p : Nat) = 0 := by omega
      rw [e1]
      rw [e2] at HL
      clear h e1 e2
      go_enter Try.func14, Try.ntmps14
      go_wp2_with (go_at_call 13; refine HL.out.mono ?_; rintro e w1 ⟨rfl, nq, rfl⟩)
      go_ret
      exact ⟨rfl, nq, rfl⟩

set_option maxHeartbeats 400000 in
theorem fail_any (b : Nat) (sl : Value) (bs : List UInt8) (p : Nat) (f : Bool) (w : World) (h : IsR w b sl bs p f) :
    Calls Try.prog 50 #[.pointer (some ⟨b, 0, none⟩)] w fun e w' => e = .returned (.tuple #[]) ∧ w' = w.setCell ⟨b, 2, none⟩ (.bool true) := by
  have c2 := h.c2
  have f2 := h.fr 2
  clear h
  go_enter Try.func50, Try.ntmps50
  go_wp2
  go_returns
  exact ⟨rfl, rfl⟩

set_option maxHeartbeats 400000 in
theorem left_nil (w : World) : Calls Try.prog 13 #[.pointer none] w fun e w' => e = .returned (.int .i64 0) ∧ w = w' := by
  go_enter Try.func13, Try.ntmps13
  go_wp2
  go_ret
  exact ⟨rfl, rfl⟩
set_option maxHeartbeats 400000 in
theorem end_nil (w : World) : Calls Try.prog 14 #[.pointer none] w fun e w' => e = .returned (.int .i64 7) ∧ w = w' := by
  go_enter Try.func14, Try.ntmps14
  go_wp2
  go_ret
  exact ⟨rfl, rfl⟩
set_option maxHeartbeats 400000 in
theorem fail_nil (w : World) : Calls Try.prog 50 #[.pointer none] w fun e w' => e = .returned (.tuple #[]) ∧ w = w' := by
  go_enter Try.func50, Try.ntmps50
  go_wp2
  go_returns
  exact ⟨rfl, rfl⟩
set_option maxHeartbeats 400000 in
theorem rint_nil (w : World) : Calls Try.prog 40 #[.pointer none] w fun e w' => e = .returned (.int .i64 0) ∧ w = w' := by
  go_enter Try.func40, Try.ntmps40
  go_wp2
  go_ret
  exact ⟨rfl, rfl⟩


set_option maxRecDepth 100000 in
set_option maxHeartbeats 400000 in
theorem clone_any (v : Value) (bs : List UInt8) (w : World) (h : Rd w v bs) (hb : bs.length ≤ 1099511627776) :
    Calls Try.prog 54 #[v] w fun e w' => ∃ v', e = .returned v' ∧ Own w' w.heap.size v' bs ∧ w.grownBy w' none := by
  have hnil := @Lib.run_eql_slice_nil Try.prog
  rcases h with ⟨rfl, rfl⟩ | ⟨b, off, cap, rfl, h1, h2, h3⟩
  · go_enter Try.func54, Try.ntmps54
    go_wp2
    go_ret
    exact ⟨_, rfl, Own.nil _ _, gb_refl _ _⟩
  · have HR := Lib.hid (show Rd w (.slice (some ⟨b, off, none⟩) bs.length cap) bs from .inr ⟨b, off, cap, rfl, h1, h2, h3⟩)
    have HB := Lib.hid hb
    clear h1 h2 h3 hb
    go_enter Try.func54, Try.ntmps54
    go_wp2_with (at_builtin; refine app_bytes rfl _ _ rfl w.heap.size (.slice (some ⟨w.heap.size, 0, none⟩) 0 0) _ [] bs rfl rfl (World.ownsRow_made w #[] 0 (Nat.le_refl _) (by simp) rfl) (HR.out.grown (gb_alloc _ _ _)) (by simp) (by have := HB.out; simp; omega) ?_; intro v' w1 ho1 hg1 hf1)
    go_ret
    exact ⟨v', rfl, ho1, gb_new (gb_alloc _ _ _) hg1 (Nat.le_refl _)⟩

set_option maxHeartbeats 400000 in
theorem read_any (v : Value) (bs : List UInt8) (w : World) (h : Rd w v bs) (hb : bs.length ≤ 1099511627776) :
    Calls Try.prog 11 #[v] w fun e w' => ∃ b sl, e = .returned (.pointer (some ⟨b, 0, none⟩)) ∧ w.heap.size ≤ b ∧ IsR w' b sl bs 0 false ∧ w.grownBy w' none ∧ (∀ k, sl.ownBlock = some k → w.heap.size ≤ k) := by
  have HC := Lib.hid (clone_any v bs w h hb)
  have HB := Lib.hid hb
  clear h hb
  go_enter Try.func11, Try.ntmps11
  go_wp2_with (go_at_call 54; refine HC.out.mono ?_; rintro e w1 ⟨v1, rfl, ho1, hg1⟩; obtain ⟨a1, c1, rfl⟩ := ho1.rd.len)
  go_ret
  exact ⟨w1.heap.size, _, rfl, hg1.size, ⟨heap_alloc_new _ _, ho1.rd.grown (gb_alloc _ _ _), fun e => by have := (ho1.lt _ e).2; omega, Nat.zero_le _, HB.out⟩, gb_trans0 hg1 (gb_alloc _ _ _), fun k hk => (ho1.lt k hk).1⟩
end Go.Proofs.Ytgfopepopcacmaa
