/-
  numbers, Ints, Strings, Bool (the encoders): the walks.
-/
import Derived.Test.YtgfopepopcacmaaStr
import Derived.Test.YtgfopepopcacmaaAwake
namespace Go.Proofs.Ytgfopepopcacmaa
open Go.RowKit

/-- a slice of one-cell values that can be read -/
def RdL (w : World) (v : Value) (vs : List Value) : Prop :=
  (v = .slice none 0 0 ∧ vs = []) ∨ ∃ b off cap, v = .slice (some ⟨b, off, none⟩) vs.length cap ∧ vs.length ≤ cap ∧ cap ≤ maxLen ∧ ∀ (j : Nat) (x : Value), vs[j]? = some x → w.cell? ⟨b, off + j, none⟩ = some x
theorem RdL.kept {w w' : World} {v : Value} {vs : List Value} {row : Option Nat} (h : RdL w v vs) (hg : w.grownBy w' row) (hne : vs ≠ [] → ∀ k, v.ownBlock = some k → row ≠ some k) : RdL w' v vs := by
  rcases h with h | ⟨b, off, cap, rfl, h1, h2, h3⟩
  · exact .inl h
  · refine .inr ⟨b, off, cap, rfl, h1, h2, fun j x hj => ?_⟩
    exact hg.cell (h3 j x hj) (fun e => hne (by rintro rfl; simp at hj) b rfl (by simpa using e.symm))
theorem RdL.grown {w w' : World} {v : Value} {vs : List Value} (h : RdL w v vs) (hg : w.grownBy w' none) : RdL w' v vs := h.kept hg (by simp)
theorem RdL.len {w : World} {v : Value} {vs : List Value} (h : RdL w v vs) : ∃ a c, v = .slice a vs.length c := by
  rcases h with ⟨rfl, rfl⟩ | ⟨b, off, cap, rfl, _⟩
  · exact ⟨none, 0, rfl⟩
  · exact ⟨_, _, rfl⟩
theorem RdL.blk {w : World} {v : Value} {vs : List Value} (h : RdL w v vs) (hl : vs ≠ []) : ∀ k, v.ownBlock = some k → k < w.heap.size := by
  intro k hk
  rcases h with ⟨rfl, _⟩ | ⟨b, off, cap, rfl, h1, h2, h3⟩
  · simp [Value.ownBlock] at hk
  · simp only [Value.ownBlock, Option.some.injEq] at hk
    subst hk
    cases vs with
    | nil => exact absurd rfl hl
    | cons x xs => exact World.block_lt_of_cell? _ _ (h3 0 x rfl)
/-- the address of element j, and what lies there -/
theorem RdL.at {w : World} {a : Option Addr} {n c : Nat} {vs : List Value} (h : RdL w (.slice a n c) vs) {j : Nat} {x : Value} (hj : vs[j]? = some x) : ∃ b off, a = some ⟨b, off, none⟩ ∧ w.cell? ⟨b, off + j, none⟩ = some x := by
  rcases h with ⟨_, rfl⟩ | ⟨b, off, cap, h0, h1, h2, h3⟩
  · simp at hj
  · simp only [Value.slice.injEq] at h0
    exact ⟨b, off, h0.1, h3 j x hj⟩

def ivs (zs : List Int) : List Value := zs.map (.int .i64)
def encL (zs : List Int) : List UInt8 := zs.flatMap enc
theorem encL_len (zs : List Int) : (encL zs).length ≤ 10 * zs.length := by
  induction zs with
  | nil => simp [encL]
  | cons z zs ih =>
    have := (enc_len z).2
    simp only [encL, List.flatMap_cons, List.length_append, List.length_cons] at *
    omega
theorem encL_snoc (zs : List Int) (i : Nat) (z : Int) (h : zs[i]? = some z) : encL (zs.take (i + 1)) = encL (zs.take i) ++ enc z := by
  unfold encL
  rw [List.take_add_one, h, List.flatMap_append]
  simp

def NInv (w : World) (B : Nat) (v : Value) (x : List UInt8) (zs : List Int) (l k : Value) (wr : World) : Prop :=
  ∃ (i : Nat), k = .int .i64 (i : Int) ∧ i ≤ zs.length ∧ Own wr B l (x ++ encL (zs.take i)) ∧ w.grownBy wr v.ownBlock ∧ Fr w v l

set_option maxRecDepth 100000 in
set_option maxHeartbeats 1000000 in
theorem numbers_any (v lv : Value) (w : World) (B : Nat) (x : List UInt8) (zs : List Int) (hz : ∀ z ∈ zs, -9223372036854775808 ≤ z ∧ z ≤ 9223372036854775807) (hown : Own w B v x) (hl : RdL w lv (ivs zs)) (hB : B ≤ w.heap.size)
    (hne : zs ≠ [] → ∀ k, lv.ownBlock = some k → v.ownBlock ≠ some k) (hlen : x.length + 10 * zs.length ≤ 1099511627776) :
    Calls Try.prog 61 #[v, lv] w (IntPost w B v (x ++ encL zs)) := by
  obtain ⟨a0, c0, rfl⟩ := hl.len
  have hivl : (ivs zs).length = zs.length := by simp [ivs]
  rw [hivl] at hl ⊢
  have HL := Lib.hid hl
  have HN := Lib.hid (hne)
  have HZ := Lib.hid hz
  have HLEN := Lib.hid hlen
  have hlz : (zs.length : Int) ≤ 9223372036854775807 := by omega
  rw [hivl] at HN
  clear hl hne hz hlen
  go_enter Try.func61, Try.ntmps61
  go_wp2
  go_loopw [0, 9] (fun l k wr => NInv w B v x zs l k wr) (fun _ k _ => zs.length - (intOf k).toNat)
  case atStart => exact ⟨0, rfl, Nat.zero_le _, by simpa [encL] using hown, gb_refl _ _, Fr.refl _ _⟩
  case round =>
    obtain ⟨i, rfl, hi, ho, hg, hf⟩ := hrel
    by_cases hlt : i < zs.length
    · have hzi : zs[i]? = some zs[i] := by simp [hlt]
      obtain ⟨b, off, rfl, hcell0⟩ := HL.out.at (j := i) (x := .int .i64 zs[i]) (by simp [ivs, hlt])
      have hcell : wr.cell? ⟨b, off + i, none⟩ = some (.int .i64 zs[i]) := hg.cell hcell0 (fun e => HN.out (by rintro h; simp [h] at hlt) b rfl e.symm)
      have hrg := HZ.out zs[i] (by simp)
      have hel := encL_len (zs.take i)
      have hel2 : (zs.take i).length ≤ i := by simp; omega
      have HC := Lib.hid (int_any u0 zs[i] wr B (x ++ encL (zs.take i)) hrg.1 hrg.2 ho (Nat.le_trans hB hg.size) (by have := HLEN.out; simp only [List.length_append]; omega))
      have hsn := encL_snoc zs i zs[i] hzi
      have HSN := Lib.hid hsn
      have HG := Lib.hid hg
      have HF := Lib.hid hf
      clear hzi hcell0 hrg hel hel2 hsn ho hg hf
      generalize zs[i] = z at *
      go_wp2_with (go_at_call 20; refine HC.out.mono ?_; rintro e w1 ⟨v1, rfl, ho1, hg1, hf1⟩)
      refine ⟨⟨i + 1, by go_num, by omega, by rw [HSN.out, ← List.append_assoc]; exact ho1, gb_fr HG.out HF.out hg1, HF.out.trans HG.out.size hf1⟩, by simp [intOf]; omega⟩
    · have hiz : i = zs.length := by omega
      have HO : Hid (Own wr B u0 (x ++ encL zs)) := Lib.hid (by rw [hiz, List.take_length] at ho; exact ho)
      have HG := Lib.hid hg
      have HF := Lib.hid hf
      clear ho hg hf hiz
      go_wp2
      go_ret
      exact ⟨_, rfl, HO.out, HG.out, HF.out⟩
end Go.Proofs.Ytgfopepopcacmaa
