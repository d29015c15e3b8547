/-
  undo.resized, Record.valid, undo.New, Log.Open: the walks.
-/
import Derived.Test.YtfdkmncjcehdkaaURec
namespace Go.Proofs.Ytfdkmncjcehdkaa
open Go.RowKit

set_option maxRecDepth 100000 in
theorem resized_any (v : Value) (l : List UInt8) (n B : Nat) (w : World) (hv : Own w B v l) (hB : B ≤ w.heap.size) (hn : n ≤ 24000) :
    Calls Try.prog 57 #[v, .int .i64 (n : Int)] w (ResP w B v (sized l n)) := by
  have hs := hv.rd.small
  obtain ⟨a, c, rfl⟩ := hv.rd.len
  by_cases h : n ≤ l.length
  · have HO := Lib.hid (hv.take h)
    have HE : Hid (sized l n = l.take n) := Lib.hid (by unfold sized; rw [if_pos h])
    have hc : n ≤ c := by
      rcases hv.2 with ⟨h0, hn0⟩ | ⟨g, cap, cur, h0, hb, hg, hnc, hcm, hcs, htake⟩
      · simp only [Value.slice.injEq] at h0; omega
      · simp only [Value.slice.injEq] at h0; omega
    have hcm : (c : Int) ≤ 9223372036854775807 := by
      rcases hv.2 with ⟨h0, hn0⟩ | ⟨g, cap, cur, h0, hb, hg, hnc, hcm, hcs, htake⟩
      · simp only [Value.slice.injEq] at h0; omega
      · simp only [Value.slice.injEq] at h0; simp only [maxLen] at hcm; omega
    clear hv
    go_enter Try.func57, Try.ntmps57
    go_wp2
    go_ret
    exact ⟨.slice a n c, rfl, by rw [HE.out]; exact HO.out, gb_refl _ _, fun k hk => .inl (by cases a <;> simp [Value.ownBlock] at hk ⊢; exact hk)⟩
  · have HE : Hid (sized l n = l ++ List.replicate (n - l.length) 0) := Lib.hid (by unfold sized; rw [if_neg h])
    obtain ⟨k, hk⟩ : ∃ k, n = l.length + k := ⟨n - l.length, by omega⟩
    subst hk
    have HE2 : Hid (l.length + k - l.length = k) := Lib.hid (by omega)
    have h0 : 0 < k := by omega
    have hl : ¬ ((l.length : Int) + (k : Int) ≤ l.length) := by omega
    have HO := Lib.hid hv
    clear hv h
    go_enter Try.func57, Try.ntmps57
    go_wp2_with (at_builtin; refine app_zeros rfl _ _ rfl B _ l k rfl (congrArg (Value.int .i64) (by omega)) h0 HO.out hB (by omega) ?_; go_must (intro v2 w2 ho2 hg2 hf2))
    go_ret
    exact ⟨_, rfl, by rw [HE.out, HE2.out]; exact ho2, hg2, hf2⟩

def okR (r : RT) : Bool := decide (0 ≤ r.2.1 ∧ r.2.1 ≤ 24000 ∧ 0 ≤ r.1 ∧ r.1 ≤ r.2.1 - (r.2.2.length : Int))
def BoolR (t : Bool) (w : World) (e : Ending) (w' : World) : Prop := e = .returned (.bool t) ∧ w.grownBy w' none
set_option maxRecDepth 100000 in
theorem valid_any (r : RT) (v : Value) (w : World) (hv : RdW w v r.2.2) :
    Calls Try.prog 39 #[.agg #[.int .i64 r.1, .int .i64 r.2.1, v]] w (BoolR (okR r) w) := by
  have hs := hv.small
  obtain ⟨a, c, rfl⟩ := hv.len
  obtain ⟨o, L, l⟩ := r
  simp only at *
  clear hv
  by_cases h : 0 ≤ L ∧ L ≤ 24000 ∧ 0 ≤ o ∧ o ≤ L - (l.length : Int)
  · have HE : Hid (okR (o, L, l) = true) := Lib.hid (by unfold okR; simpa using h)
    obtain ⟨h1, h2, h3, h4⟩ := h
    go_enter Try.func39, Try.ntmps39
    go_wp2
    go_ret
    exact ⟨by rw [HE.out]; rfl, gb_alloc _ _ _⟩
  · have HE : Hid (okR (o, L, l) = false) := Lib.hid (by unfold okR; simpa using h)
    by_cases h1 : 0 ≤ L
    · by_cases h2 : L ≤ 24000
      · by_cases h3 : 0 ≤ o
        · have h4 : ¬ o ≤ L - (l.length : Int) := fun h4 => h ⟨h1, h2, h3, h4⟩
          clear h
          go_enter Try.func39, Try.ntmps39
          go_wp2
          go_ret
          exact ⟨by rw [HE.out]; rfl, gb_alloc _ _ _⟩
        · clear h
          go_enter Try.func39, Try.ntmps39
          go_wp2
          go_ret
          exact ⟨by rw [HE.out]; rfl, gb_alloc _ _ _⟩
      · clear h
        go_enter Try.func39, Try.ntmps39
        go_wp2
        go_ret
        exact ⟨by rw [HE.out]; rfl, gb_alloc _ _ _⟩
    · clear h
      go_enter Try.func39, Try.ntmps39
      go_wp2
      go_ret
      exact ⟨by rw [HE.out]; rfl, gb_alloc _ _ _⟩

/-- a log: its block, its image, its records; F has its blocks -/
structure LogF (w : World) (F : Nat → Prop) (g : Nat) (iv rv : Value) (img : List UInt8) (ps : List RP) (op : Bool) : Prop where
  blk : w.heap[g]? = some (.cells #[iv, rv, .bool op] 68 (0, 0))
  image : Own w 0 iv img
  row : RRow 65 w 0 rv ps
  data : ∀ p ∈ ps, Own w 0 p.2 p.1.2.2
  fg : F g
  fi : ∀ k, iv.ownBlock = some k → F k ∧ k ≠ g
  fr : ∀ k, rv.ownBlock = some k → F k ∧ k ≠ g ∧ iv.ownBlock ≠ some k
  fd : ∀ p ∈ ps, ∀ k, p.2.ownBlock = some k → F k ∧ k ≠ g ∧ iv.ownBlock ≠ some k ∧ rv.ownBlock ≠ some k
  lt : ∀ k, F k → k < w.heap.size
/-- only the blocks of F have changed, and new ones were made -/
structure Foot (w w' : World) (F F' : Nat → Prop) : Prop where
  os : w'.os = w.os
  tape : w'.tape = w.tape
  output : w'.output = w.output
  size : w.heap.size ≤ w'.heap.size
  block : ∀ k, k < w.heap.size → ¬ F k → w'.heap[k]? = w.heap[k]?
  sub : ∀ k, F' k → F k ∨ w.heap.size ≤ k
theorem Foot.refl (w : World) (F : Nat → Prop) : Foot w w F F := ⟨rfl, rfl, rfl, Nat.le_refl _, fun _ _ _ => rfl, fun _ h => .inl h⟩
theorem Foot.trans {w w1 w2 : World} {F F1 F2 : Nat → Prop} (h : Foot w w1 F F1) (k : Foot w1 w2 F1 F2) : Foot w w2 F F2 :=
  ⟨k.os.trans h.os, k.tape.trans h.tape, k.output.trans h.output, Nat.le_trans h.size k.size,
    fun i hi hn => (k.block i (Nat.lt_of_lt_of_le hi h.size) (fun hf => by rcases h.sub i hf with h1 | h1; exact hn h1; omega)).trans (h.block i hi hn),
    fun i hf => by
      rcases k.sub i hf with h1 | h1
      · exact h.sub i h1
      · exact .inr (Nat.le_trans h.size h1)⟩
theorem Foot.of_gb {w w' : World} {F : Nat → Prop} {row : Option Nat} (h : w.grownBy w' row) (hr : ∀ k, row = some k → F k) : Foot w w' F F :=
  ⟨h.os, h.tape, h.output, h.size, fun k hk hn => h.block k hk (fun e => hn (hr k e.symm)), fun _ h => .inl h⟩
theorem Foot.gb {w w' : World} {F F' : Nat → Prop} (h : Foot w w' F F') {w0 : World} (h0 : w0.grownBy w none) (hF : ∀ k, F k → w0.heap.size ≤ k) : w0.grownBy w' none :=
  ⟨h.os.trans h0.os, h.tape.trans h0.tape, h.output.trans h0.output, Nat.le_trans h0.size h.size, fun k hk hn => (h.block k (Nat.lt_of_lt_of_le hk h0.size) (fun hf => by have := hF k hf; omega)).trans (h0.block k hk hn)⟩
theorem LogF.grown {w w' : World} {F : Nat → Prop} {g : Nat} {iv rv : Value} {img : List UInt8} {ps : List RP} {op : Bool} (h : LogF w F g iv rv img ps op) {row : Option Nat} (hg : w.grownBy w' row) (hr : ∀ k, row = some k → ¬ F k) : LogF w' F g iv rv img ps op :=
  ⟨blk_kept' h.blk hg (fun e => hr g e h.fg), h.image.kept hg (fun k hk e => hr k e (h.fi k hk).1), h.row.kept hg (fun k hk e => hr k e (h.fr k hk).1), fun p hp => (h.data p hp).kept hg (fun k hk e => hr k e (h.fd p hp k hk).1),
    h.fg, h.fi, h.fr, h.fd, fun k hk => Nat.lt_of_lt_of_le (h.lt k hk) hg.size⟩
/-- what New returns -/
def NewP (w : World) (l : List UInt8) (e : Ending) (w' : World) : Prop := ∃ g F iv, e = .returned (.tuple #[.pointer (some ⟨g, 0, none⟩), .int .i64 0]) ∧ w.grownBy w' none ∧ LogF w' F g iv (.slice none 0 0) l [] false ∧ ∀ k, F k → w.heap.size ≤ k
set_option maxRecDepth 100000 in
theorem new_any (v : Value) (l : List UInt8) (w : World) (hv : Rd w v l) (hl : l.length ≤ 24000) : Calls Try.prog 11 #[v] w (NewP w l) := by
  have HC := Lib.hid (clone_any v l w hv (by omega))
  obtain ⟨a, c, rfl⟩ := hv.len
  have h1 : (l.length : Int) ≤ 24000 := by omega
  clear hv hl
  go_enter Try.func11, Try.ntmps11
  go_wp2_with (go_at_call 32; refine HC.out.mono ?_; rintro e w1 ⟨v1, rfl, ho, hg⟩; obtain ⟨a1, c1, rfl⟩ := ho.rd.len)
  go_ret2
  refine ⟨w1.heap.size, fun k => k = w1.heap.size ∨ (Value.slice a1 l.length c1).ownBlock = some k, .slice a1 l.length c1, rfl, gb_same hg (gb_alloc _ _ _), ⟨heap_at_alloc _ _, (ho.mono (Nat.zero_le _)).grown (gb_alloc _ _ _), RRow.nil _ _ _, by simp, .inl rfl, fun k hk => ⟨.inr hk, by have := (ho.lt k hk).2; omega⟩, by simp [Value.ownBlock], by simp, ?_⟩, ?_⟩
  · rintro k (rfl | hk)
    · simp
    · have := (ho.lt k hk).2; simp; omega
  · rintro k (rfl | hk)
    · exact hg.size
    · exact (ho.lt k hk).1
theorem new_big (v : Value) (l : List UInt8) (w : World) (hv : Rd w v l) (hl : 24000 < l.length) : Calls Try.prog 11 #[v] w fun e w' => e = .returned (.tuple #[.pointer none, .int .i64 6]) ∧ w = w' := by
  obtain ⟨a, c, rfl⟩ := hv.len
  have h1 : (24000 : Int) < l.length := by omega
  clear hv hl
  go_enter Try.func11, Try.ntmps11
  go_wp2
  go_ret2
  exact ⟨rfl, rfl⟩
theorem open_nil (w : World) : Calls Try.prog 18 #[.pointer none] w fun e w' => e = .returned (.bool false) ∧ w = w' := by
  go_enter Try.func18, Try.ntmps18
  go_wp2
  go_ret
  exact ⟨rfl, rfl⟩
theorem open_any {w : World} {F : Nat → Prop} {g : Nat} {iv rv : Value} {img : List UInt8} {ps : List RP} {op : Bool} (h : LogF w F g iv rv img ps op) : Calls Try.prog 18 #[.pointer (some ⟨g, 0, none⟩)] w fun e w' => e = .returned (.bool op) ∧ w = w' := by
  have q : w.cell? ⟨g, 2, none⟩ = some (.bool op) := cell_row h.blk
  clear h
  go_enter Try.func18, Try.ntmps18
  go_wp2
  go_ret
  exact ⟨rfl, rfl⟩
end Go.Proofs.Ytfdkmncjcehdkaa
