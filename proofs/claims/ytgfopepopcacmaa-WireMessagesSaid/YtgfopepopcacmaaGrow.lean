/-
  slices.Grow of bytes: the walk.
-/
import Derived.Test.YtgfopepopcacmaaSmall
import Derived.Lib.AppendZerosOnto
import Derived.Laws.CopyOwn
namespace Go.Proofs.Ytgfopepopcacmaa
open Go.RowKit

def GrowPost (w : World) (B : Nat) (v : Value) (x : List UInt8) (n : Nat) (e : Ending) (w' : World) : Prop :=
  ∃ a c, e = .returned (.slice a x.length c) ∧ x.length + n ≤ c ∧ Own w' B (.slice a x.length c) x ∧ w.grownBy w' none ∧ Fr w v (.slice a x.length c)

theorem zc_size (n : Nat) : (Builtin.zeroCells #[Value.int .u8 0] n).size = n := by simp [size_zeroCells]
theorem grown_own (w : World) (B m c : Nat) (x : List UInt8) (cells : Array Value) (hB : B ≤ w.heap.size) (hx : x.length = m) (hmc : m ≤ c) (hc : c ≤ maxLen) (hs : cells.size = c) (ht : cells.toList.take m = bvs x) :
    Own (w.drew.alloc (.cells cells 5)) B (.slice (some ⟨w.heap.size, 0, none⟩) m c) x := by
  subst hx
  exact ⟨by simp [bvs], .inr ⟨w.heap.size, c, cells, rfl, hB, heap_alloc_new w.drew _, hmc, hc, by omega, by rw [Nat.mul_one]; exact ht⟩⟩
theorem gb_drew_alloc (w : World) (o : Obj) : w.grownBy (w.drew.alloc o) none := gb_same (gb_drew _ _) (gb_alloc _ _ _)

set_option maxRecDepth 100000 in
set_option maxHeartbeats 400000 in
theorem grow_any (v : Value) (w : World) (B : Nat) (x : List UInt8) (n : Nat) (hown : Own w B v x) (hB : B ≤ w.heap.size) (hx : x.length ≤ 1099511627776) (hn : n ≤ 1099511627776) :
    Calls Try.prog 92 #[v, .int .i64 (n : Int)] w (GrowPost w B v x n) := by
  have h0 := hown
  obtain ⟨i0, hi, hz0, hz1, hz2⟩ := info_parts info5
  rcases hown.2 with ⟨rfl, hx0⟩ | ⟨g, cap, cur, rfl, hbg, hgg, hnc, hcm, hcs, htake⟩
  · obtain rfl : x = [] := List.eq_nil_of_length_eq_zero hx0
    by_cases hn0 : 0 < n
    · have hz := Lib.run_append_nil_zeros (P := Try.prog) w 22 3 22 5 i0 (.int .u8 0) .i64 .i64 Try.underlying22 Try.underlying3 hi hz0 n hn0 (by omega) (by omega) (by rw [hz2]; omega)
      have hge := grownCap_ge w n 0 5
      have hle := grownCap_le_maxLen w n 0 5 (by simp only [maxLen]; omega)
      have HZ := Lib.hid hz
      have HG := Lib.hid (And.intro hge hle)
      clear hz h0 hown hx0 hge hle
      go_enter Try.func92, Try.ntmps92
      go_wp2_with (at_builtin; refine Lib.wpList_append_run w rfl _ _ _ _ rfl (.slice none 0 0) (.int .i64 (n : Int)) rfl rfl _ _ HZ.out ?_)
      go_ret
      refine ⟨some ⟨w.heap.size, 0, none⟩, grownCap w n 0 5, rfl, by have := HG.out.1; simp; omega, ?_, gb_drew_alloc _ _, fun k hk => .inr (by simp only [Value.ownBlock, Option.some.injEq] at hk; omega)⟩
      exact grown_own w B 0 _ [] _ hB rfl (Nat.zero_le _) HG.out.2 (by simp only [Array.size_append, zc_size]; have := HG.out.1; omega) rfl
    · obtain rfl : n = 0 := by omega
      have HO := Lib.hid h0
      clear h0 hown hx0
      go_enter Try.func92, Try.ntmps92
      go_wp2
      go_ret
      exact ⟨none, 0, rfl, by simp, HO.out, gb_refl _ _, Fr.refl _ _⟩
  · obtain ⟨sp, rfl⟩ : ∃ sp, cap = x.length + sp := ⟨cap - x.length, by omega⟩
    have hcur : cur.size = x.length + sp := by simpa using hcs
    have htk : cur.toList.take x.length = bvs x := by rw [Nat.mul_one] at htake; exact htake
    by_cases hn0 : n ≤ sp
    · have HO := Lib.hid h0
      have hcm' : x.length + sp ≤ 9223372036854775807 := by simp only [maxLen] at hcm; omega
      clear h0 hown hgg hcs htake hcur htk hcm
      go_enter Try.func92, Try.ntmps92
      go_wp2
      go_ret
      exact ⟨some ⟨g, 0, none⟩, x.length + sp, rfl, by omega, HO.out, gb_refl _ _, Fr.refl _ _⟩
    · obtain ⟨k, rfl⟩ : ∃ k, n = sp + k := ⟨n - sp, by omega⟩
      have hsp : sp ≤ 1099511627776 := by omega
      have hf := run_firstCells_some (P := Try.prog) w.drew i0.size (x.length + sp) ⟨g, 0, none⟩ (x.length + sp) (x.length + sp) cur.toList (by rw [hz1, Array.length_toList]; omega) (fun j y hj => by
        rw [addr_add, Nat.zero_add]
        show w.cell? _ = _
        rw [cell_of_row w g j cur _ (0, 0) hgg]
        simpa using hj)
      have hz := Lib.run_append_grow_zeros (P := Try.prog) w 22 3 22 5 i0 (.int .u8 0) .i64 .i64 Try.underlying22 Try.underlying3 hi hz0 (some ⟨g, 0, none⟩) (x.length + sp) (x.length + sp) cur.toList hf k (by omega) (by omega) (by omega) (by omega) (by rw [hz2]; omega) (by rw [hz2]; exact growslice_fits (by omega) (by omega))
      have hge := grownCap_ge w (x.length + sp + k) (x.length + sp) 5
      have hle := grownCap_le_maxLen w (x.length + sp + k) (x.length + sp) 5 (by simp only [maxLen]; omega)
      have HZ := Lib.hid hz
      have HG := Lib.hid (And.intro hge hle)
      have HT := Lib.hid (And.intro htk hcur)
      have hlg : x.length ≤ grownCap w (x.length + sp + k) (x.length + sp) 5 := by omega
      clear hz h0 hown hgg hcs htake hcur htk hcm hge hle hf hi hz0 hz1 hz2
      go_enter Try.func92, Try.ntmps92
      go_wp2_with (at_builtin; refine Lib.wpList_append_run w rfl _ _ _ _ rfl (.slice (some ⟨g, 0, none⟩) (x.length + sp) (x.length + sp)) (.int .i64 (k : Int)) rfl (congrArg (Value.int .i64) (by omega)) _ _ HZ.out ?_)
      go_ret
      refine ⟨some ⟨w.heap.size, 0, none⟩, grownCap w (x.length + sp + k) (x.length + sp) 5, rfl, by have := HG.out.1; omega, ?_, gb_drew_alloc _ _, fun k hk => .inr (by simp only [Value.ownBlock, Option.some.injEq] at hk; omega)⟩
      refine grown_own w B x.length _ x _ hB rfl (by have := HG.out.1; omega) HG.out.2 (by simp only [Array.size_append, zc_size, List.size_toArray, Array.length_toList]; have h1 := HG.out.1; have h2 := HT.out.2; omega) ?_
      simp only [Array.toList_append, Array.toArray_toList]
      rw [List.take_append_of_le_length (by have h2 := HT.out.2; have h3 : cur.toList.length = cur.size := Array.length_toList; omega)]
      exact HT.out.1
end Go.Proofs.Ytgfopepopcacmaa
