/-
  wire.numbers; slices.Grow.
-/
import Derived.Test.YtfldooljmjeaoaaVB
import Derived.Deep.QuietTactic
import Derived.BigQuiet
import Derived.Lib.AppendZerosOnto
import Derived.Laws.CopyOwn
namespace Go.Proofs.Ytfldooljmjeaoaa
open Go.RowKit Go.Shelf
theorem enc64 : enc 64 = [128, 1] := by decide
theorem enc_m1 : enc (-1) = [1] := by decide
theorem encS_ab : encS (⟨#[97, 98]⟩ : ByteArray).data.toList = [4, 97, 98] := by decide
theorem rdInt_128 : rdInt [128, 0] 0 = none := by decide

theorem same_g (a b : Value) (w : World) (l : List UInt8) (ha : Rd w a l) (hb : Rd w b l) :
    Calls Try.prog 20 #[a, b] w fun e w' => e = .returned (.bool true) ∧ w.grownBy w' none :=
  (same_true a b w l ha hb).mono fun _ _ ⟨h1, h2⟩ => ⟨h1, h2 ▸ gb_refl _ _⟩
theorem RdL.blk {w : World} {v : Value} {vs : List Value} (h : RdL w v vs) (hl : vs ≠ []) : ∀ k, v.ownBlock = some k → k < w.heap.size := by
  intro k hk
  rcases h with ⟨rfl, _⟩ | ⟨b, off, cap, rfl, h1, h2, h3⟩
  · simp [Value.ownBlock] at hk
  · simp only [Value.ownBlock, Option.some.injEq] at hk
    subst hk
    cases vs with
    | nil => exact absurd rfl hl
    | cons x xs => exact World.block_lt_of_cell? _ _ (h3 0 x rfl)
def encL (zs : List Int) : List UInt8 := zs.flatMap enc
theorem encL_len (zs : List Int) : (encL zs).length ≤ 10 * zs.length := by
  induction zs with
  | nil => simp [encL]
  | cons z zs ih =>
    have := (enc_len z).2
    simp only [encL, List.flatMap_cons, List.length_append, List.length_cons] at *
    omega
theorem encL_snoc (zs : List Int) (i : Nat) (z : Int) (h : zs[i]? = some z) : encL (zs.take (i + 1)) = encL (zs.take i) ++ enc z := by
  unfold encL
  rw [List.take_add_one, h, List.flatMap_append]
  simp

def NInv (w : World) (B : Nat) (v : Value) (x : List UInt8) (zs : List Int) (l k : Value) (wr : World) : Prop :=
  ∃ (i : Nat), k = .int .i64 (i : Int) ∧ i ≤ zs.length ∧ Own wr B l (x ++ encL (zs.take i)) ∧ w.grownBy wr v.ownBlock ∧ Fr w v l

set_option maxRecDepth 100000 in
set_option maxHeartbeats 1000000 in
theorem numbers_any (v lv : Value) (w : World) (B : Nat) (x : List UInt8) (zs : List Int) (hz : ∀ z ∈ zs, -9223372036854775808 ≤ z ∧ z ≤ 9223372036854775807) (hown : Own w B v x) (hl : RdL w lv (ivs zs)) (hB : B ≤ w.heap.size)
    (hne : zs ≠ [] → ∀ k, lv.ownBlock = some k → v.ownBlock ≠ some k) (hlen : x.length + 10 * zs.length ≤ 1099511627776) :
    Calls Try.prog 60 #[v, lv] w (IntPost w B v (x ++ encL zs)) := by
  obtain ⟨a0, c0, rfl⟩ := hl.len
  have hivl : (ivs zs).length = zs.length := by simp [ivs]
  rw [hivl] at hl ⊢
  have HL := Lib.hid hl
  have HN := Lib.hid (hne)
  have HZ := Lib.hid hz
  have HLEN := Lib.hid hlen
  have hlz : (zs.length : Int) ≤ 9223372036854775807 := by omega
  rw [hivl] at HN
  clear hl hne hz hlen
  go_enter Try.func60, Try.ntmps60
  go_wp2
  go_loopw [0, 9] (fun l k wr => NInv w B v x zs l k wr) (fun _ k _ => zs.length - (intOf k).toNat)
  case atStart => exact ⟨0, rfl, Nat.zero_le _, by simpa [encL] using hown, gb_refl _ _, Fr.refl _ _⟩
  case round =>
    obtain ⟨i, rfl, hi, ho, hg, hf⟩ := hrel
    by_cases hlt : i < zs.length
    · have hzi : zs[i]? = some zs[i] := by simp [hlt]
      obtain ⟨b, off, rfl, hcell0⟩ := HL.out.at (j := i) (x := .int .i64 zs[i]) (by simp [ivs, hlt])
      have hcell : wr.cell? ⟨b, off + i, none⟩ = some (.int .i64 zs[i]) := hg.cell hcell0 (fun e => HN.out (by rintro h; simp [h] at hlt) b rfl e.symm)
      have hrg := HZ.out zs[i] (by simp)
      have hel := encL_len (zs.take i)
      have hel2 : (zs.take i).length ≤ i := by simp; omega
      have HC := Lib.hid (int_any u0 zs[i] wr B (x ++ encL (zs.take i)) hrg.1 hrg.2 ho (Nat.le_trans hB hg.size) (by have := HLEN.out; simp only [List.length_append]; omega))
      have hsn := encL_snoc zs i zs[i] hzi
      have HSN := Lib.hid hsn
      have HG := Lib.hid hg
      have HF := Lib.hid hf
      clear hzi hcell0 hrg hel hel2 hsn ho hg hf
      generalize zs[i] = z at *
      go_wp2_with (go_at_call 38; refine HC.out.mono ?_; rintro e w1 ⟨v1, rfl, ho1, hg1, hf1⟩)
      refine ⟨⟨i + 1, by go_num, by omega, by rw [HSN.out, ← List.append_assoc]; exact ho1, gb_fr HG.out HF.out hg1, HF.out.trans HG.out.size hf1⟩, by simp [intOf]; omega⟩
    · have hiz : i = zs.length := by omega
      have HO : Hid (Own wr B u0 (x ++ encL zs)) := Lib.hid (by rw [hiz, List.take_length] at ho; exact ho)
      have HG := Lib.hid hg
      have HF := Lib.hid hf
      clear ho hg hf hiz
      go_wp2
      go_ret
      exact ⟨_, rfl, HO.out, HG.out, HF.out⟩


def encIs (zs : List Int) : List UInt8 := enc zs.length ++ encL zs
def svs (ss : List ByteArray) : List Value := ss.map .string
def bl (s : ByteArray) : List UInt8 := s.data.toList
theorem bl_len (s : ByteArray) : (bl s).length = s.size := by unfold bl; rw [Array.length_toList]; rfl
def encSL (ss : List ByteArray) : List UInt8 := ss.flatMap fun s => encS (bl s)
def encSs (ss : List ByteArray) : List UInt8 := enc ss.length ++ encSL ss
def encB (v : Bool) : List UInt8 := if v then [1] else [0]

theorem encS_len (l : List UInt8) : (encS l).length ≤ l.length + 10 := by unfold encS; have := (enc_len (l.length : Int)).2; simp only [List.length_append]; omega

theorem encSL_snoc (ss : List ByteArray) (i : Nat) (s : ByteArray) (h : ss[i]? = some s) : encSL (ss.take (i + 1)) = encSL (ss.take i) ++ encS (bl s) := by
  unfold encSL
  rw [List.take_add_one, h, List.flatMap_append]
  simp
theorem encSL_len (ss : List ByteArray) (N : Nat) (h : ∀ s ∈ ss, s.size ≤ N) : (encSL ss).length ≤ (N + 10) * ss.length := by
  induction ss with
  | nil => simp [encSL]
  | cons s ss ih =>
    have h1 := encS_len (bl s)
    rw [bl_len] at h1
    have h2 := h s (by simp)
    have h3 := ih (fun t ht => h t (by simp [ht]))
    simp only [encSL, List.flatMap_cons, List.length_append, List.length_cons] at *
    rw [Nat.mul_add]
    omega

def SInv (w : World) (B : Nat) (v : Value) (x : List UInt8) (ss : List ByteArray) (l k : Value) (wr : World) : Prop :=
  ∃ (i : Nat), k = .int .i64 (i : Int) ∧ i ≤ ss.length ∧ Own wr B l ((x ++ enc ss.length) ++ encSL (ss.take i)) ∧ w.grownBy wr v.ownBlock ∧ Fr w v l


def GrowPost (w : World) (B : Nat) (v : Value) (x : List UInt8) (n : Nat) (e : Ending) (w' : World) : Prop :=
  ∃ a c, e = .returned (.slice a x.length c) ∧ x.length + n ≤ c ∧ Own w' B (.slice a x.length c) x ∧ w.grownBy w' none ∧ Fr w v (.slice a x.length c)

theorem zc_size (n : Nat) : (Builtin.zeroCells #[Value.int .u8 0] n).size = n := by simp [size_zeroCells]
theorem grown_own (w : World) (B m c : Nat) (x : List UInt8) (cells : Array Value) (hB : B ≤ w.heap.size) (hx : x.length = m) (hmc : m ≤ c) (hc : c ≤ maxLen) (hs : cells.size = c) (ht : cells.toList.take m = bvs x) :
    Own (w.drew.alloc (.cells cells 5)) B (.slice (some ⟨w.heap.size, 0, none⟩) m c) x := by
  subst hx
  exact ⟨by simp [bvs], .inr ⟨w.heap.size, c, cells, rfl, hB, heap_alloc_new w.drew _, hmc, hc, by omega, by rw [Nat.mul_one]; exact ht⟩⟩
theorem gb_drew_alloc (w : World) (o : Obj) : w.grownBy (w.drew.alloc o) none := gb_same (gb_drew _ _) (gb_alloc _ _ _)

set_option maxRecDepth 100000 in
set_option maxHeartbeats 400000 in
theorem grow_any (v : Value) (w : World) (B : Nat) (x : List UInt8) (n : Nat) (hown : Own w B v x) (hB : B ≤ w.heap.size) (hx : x.length ≤ 1099511627776) (hn : n ≤ 1099511627776) :
    Calls Try.prog 70 #[v, .int .i64 (n : Int)] w (GrowPost w B v x n) := by
  have h0 := hown
  obtain ⟨i0, hi, hz0, hz1, hz2⟩ := info_parts info5
  rcases hown.2 with ⟨rfl, hx0⟩ | ⟨g, cap, cur, rfl, hbg, hgg, hnc, hcm, hcs, htake⟩
  · obtain rfl : x = [] := List.eq_nil_of_length_eq_zero hx0
    by_cases hn0 : 0 < n
    · have hz := Lib.run_append_nil_zeros (P := Try.prog) w 22 3 22 5 i0 (.int .u8 0) .i64 .i64 Try.underlying22 Try.underlying3 hi hz0 n hn0 (by omega) (by omega) (by rw [hz2]; omega)
      have hge := grownCap_ge w n 0 5
      have hle := grownCap_le_maxLen w n 0 5 (by simp only [maxLen]; omega)
      have HZ := Lib.hid hz
      have HG := Lib.hid (And.intro hge hle)
      clear hz h0 hown hx0 hge hle
      go_enter Try.func70, Try.ntmps70
      go_wp2_with (at_builtin; refine Lib.wpList_append_run w rfl _ _ _ _ rfl (.slice none 0 0) (.int .i64 (n : Int)) rfl rfl _ _ HZ.out ?_)
      go_ret
      refine ⟨some ⟨w.heap.size, 0, none⟩, grownCap w n 0 5, rfl, by have := HG.out.1; simp; omega, ?_, gb_drew_alloc _ _, fun k hk => .inr (by simp only [Value.ownBlock, Option.some.injEq] at hk; omega)⟩
      exact grown_own w B 0 _ [] _ hB rfl (Nat.zero_le _) HG.out.2 (by simp only [Array.size_append, zc_size]; have := HG.out.1; omega) rfl
    · obtain rfl : n = 0 := by omega
      have HO := Lib.hid h0
      clear h0 hown hx0
      go_enter Try.func70, Try.ntmps70
      go_wp2
      go_ret
      exact ⟨none, 0, rfl, by simp, HO.out, gb_refl _ _, Fr.refl _ _⟩
  · obtain ⟨sp, rfl⟩ : ∃ sp, cap = x.length + sp := ⟨cap - x.length, by omega⟩
    have hcur : cur.size = x.length + sp := by simpa using hcs
    have htk : cur.toList.take x.length = bvs x := by rw [Nat.mul_one] at htake; exact htake
    by_cases hn0 : n ≤ sp
    · have HO := Lib.hid h0
      have hcm' : x.length + sp ≤ 9223372036854775807 := by simp only [maxLen] at hcm; omega
      clear h0 hown hgg hcs htake hcur htk hcm
      go_enter Try.func70, Try.ntmps70
      go_wp2
      go_ret
      exact ⟨some ⟨g, 0, none⟩, x.length + sp, rfl, by omega, HO.out, gb_refl _ _, Fr.refl _ _⟩
    · obtain ⟨k, rfl⟩ : ∃ k, n = sp + k := ⟨n - sp, by omega⟩
      have hsp : sp ≤ 1099511627776 := by omega
      have hf := run_firstCells_some (P := Try.prog) w.drew i0.size (x.length + sp) ⟨g, 0, none⟩ (x.length + sp) (x.length + sp) cur.toList (by rw [hz1, Array.length_toList]; omega) (fun j y hj => by
        rw [addr_add, Nat.zero_add]
        show w.cell? _ = _
        rw [cell_of_row w g j cur _ (0, 0) hgg]
        simpa using hj)
      have hz := Lib.run_append_grow_zeros (P := Try.prog) w 22 3 22 5 i0 (.int .u8 0) .i64 .i64 Try.underlying22 Try.underlying3 hi hz0 (some ⟨g, 0, none⟩) (x.length + sp) (x.length + sp) cur.toList hf k (by omega) (by omega) (by omega) (by omega) (by rw [hz2]; omega) (by rw [hz2]; exact growslice_fits (by omega) (by omega))
      have hge := grownCap_ge w (x.length + sp + k) (x.length + sp) 5
      have hle := grownCap_le_maxLen w (x.length + sp + k) (x.length + sp) 5 (by simp only [maxLen]; omega)
      have HZ := Lib.hid hz
      have HG := Lib.hid (And.intro hge hle)
      have HT := Lib.hid (And.intro htk hcur)
      have hlg : x.length ≤ grownCap w (x.length + sp + k) (x.length + sp) 5 := by omega
      clear hz h0 hown hgg hcs htake hcur htk hcm hge hle hf hi hz0 hz1 hz2
      go_enter Try.func70, Try.ntmps70
      go_wp2_with (at_builtin; refine Lib.wpList_append_run w rfl _ _ _ _ rfl (.slice (some ⟨g, 0, none⟩) (x.length + sp) (x.length + sp)) (.int .i64 (k : Int)) rfl (congrArg (Value.int .i64) (by omega)) _ _ HZ.out ?_)
      go_ret
      refine ⟨some ⟨w.heap.size, 0, none⟩, grownCap w (x.length + sp + k) (x.length + sp) 5, rfl, by have := HG.out.1; omega, ?_, gb_drew_alloc _ _, fun k hk => .inr (by simp only [Value.ownBlock, Option.some.injEq] at hk; omega)⟩
      refine grown_own w B x.length _ x _ hB rfl (by have := HG.out.1; omega) HG.out.2 (by simp only [Array.size_append, zc_size, List.size_toArray, Array.length_toList]; have h1 := HG.out.1; have h2 := HT.out.2; omega) ?_
      simp only [Array.toList_append, Array.toArray_toList]
      rw [List.take_append_of_le_length (by have h2 := HT.out.2; have h3 : cur.toList.length = cur.size := Array.length_toList; omega)]
      exact HT.out.1
end Go.Proofs.Ytfldooljmjeaoaa
