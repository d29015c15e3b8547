/-
  The reference's byte queues: NewBytes, Peek, Index: the walks.
-/
import Derived.Test.YtjidkaeglhfajaaRDecB
import Derived.Test.YtjidkaeglhfajaaROrd
namespace Go.Proofs.Ytjidkaeglhfajaa
open Go.RowKit Go.Shelf

def rB (n : Nat) (u : Value) : Value := .agg #[.int .i64 (n : Int), u]
theorem row2 {w : World} {g : Nat} {x0 x1 : Value} {T : TypeId} (h : w.heap[g]? = some (.cells #[x0, x1] T (0, 0))) : w.cell? ⟨g, 0, none⟩ = some x0 ∧ w.cell? ⟨g, 1, none⟩ = some x1 := ⟨cell_row h, cell_row h⟩
theorem bsize : (Try.prog.info? 31).map (·.size) = some 2 := by kernel_rfl
set_option maxRecDepth 100000 in
theorem rnew_any (n : Nat) (w : World) (hn : 0 < n) (hn2 : n ≤ 4096) : Calls Try.prog 13 #[.int .i64 n] w (ValG (.tuple #[rB n (.slice none 0 0), .int .i64 0]) w) := by
  have h1 : ¬ (n : Int) < 1 := by omega
  have h2 : ¬ (4096 : Int) < n := by omega
  have HB := Lib.hid (heap_at_alloc w (.cells #[.int .i64 0, .slice none 0 0] 31))
  go_enter Try.func13, Try.ntmps13
  go_wp2_with ((with_reducible refine is_store 31 2 12 ?_); go_must (refine st_row 31 2 12 w.heap.size _ _ _ rfl rfl HB.out bsize rfl rfl ?_; intro w4 hb4 hg4))
  refine ret_cb rfl w.heap.size 31 _ (.int .i64 0) rfl rfl hb4 Try.underlying31 bsize ?_
  exact ⟨rfl, gb_new (gb_alloc _ _ _) hg4 (Nat.le_refl _)⟩
set_option maxRecDepth 100000 in
theorem rnew_no (n : Int) (w : World) (hn : n < 1 ∨ 4096 < n) : Calls Try.prog 13 #[.int .i64 n] w (ValG (.tuple #[rB 0 (.slice none 0 0), .int .i64 2]) w) := by
  have HB := Lib.hid (heap_at_alloc w (.cells #[.int .i64 0, .slice none 0 0] 31))
  by_cases h1 : n < 1
  · clear hn
    go_enter Try.func13, Try.ntmps13
    go_wp2_with ((with_reducible refine is_store 31 2 10 ?_); go_must (refine st_row 31 2 10 w.heap.size _ _ _ rfl rfl HB.out bsize rfl rfl ?_; intro w4 hb4 hg4))
    refine ret_cb rfl w.heap.size 31 _ (.int .i64 2) rfl rfl hb4 Try.underlying31 bsize ?_
    exact ⟨rfl, gb_new (gb_alloc _ _ _) hg4 (Nat.le_refl _)⟩
  · have h2 : 4096 < n := by omega
    clear hn
    go_enter Try.func13, Try.ntmps13
    go_wp2_with ((with_reducible refine is_store 31 2 10 ?_); go_must (refine st_row 31 2 10 w.heap.size _ _ _ rfl rfl HB.out bsize rfl rfl ?_; intro w4 hb4 hg4))
    refine ret_cb rfl w.heap.size 31 _ (.int .i64 2) rfl rfl hb4 Try.underlying31 bsize ?_
    exact ⟨rfl, gb_new (gb_alloc _ _ _) hg4 (Nat.le_refl _)⟩
theorem lit2 (w : World) (o : Obj) : Own ((w.alloc o).alloc (.cells #[] 5)) w.heap.size (.slice (some ⟨w.heap.size + 1, 0, none⟩) 0 0) [] := by
  have := Own.lit (w.alloc o) #[] [] 0 w.heap.size rfl rfl (by simp) (Nat.zero_le _)
  rwa [World.size_alloc] at this
theorem rd_form {w : World} {v : Value} {l : List UInt8} (h : Rd w v l) : ∃ a c, v = .slice a l.length c ∧ l.length ≤ c ∧ (c : Int) ≤ 9223372036854775807 := by
  rcases h with ⟨rfl, rfl⟩ | ⟨b, off, cap, rfl, h1, h2, _⟩
  · exact ⟨_, _, rfl, Nat.le_refl _, by simp⟩
  · exact ⟨_, _, rfl, h1, by simp only [maxLen] at h2; omega⟩
set_option maxRecDepth 100000 in
set_option maxHeartbeats 4000000 in
theorem rpeekB_any (n : Nat) (u : Value) (l : List UInt8) (z : Int) (w : World) (hu : Rd w u l) (hl : l.length ≤ 4096) (hz : OkI z) : Calls Try.prog 22 #[rB n u, .int .i64 z] w (PeekP w l z) := by
  have hz' := hz
  unfold OkI at hz'
  obtain ⟨a, c, rfl, hc, hcm⟩ := rd_form hu
  have HU := Lib.hid hu
  have HB := Lib.hid (row2 (heap_at_alloc w (.cells #[.int .i64 (n : Int), .slice a l.length c] 31)))
  have HB2 := Lib.hid (row2 (blk_kept (heap_at_alloc w (.cells #[.int .i64 (n : Int), .slice a l.length c] 31)) (gb_alloc _ (.cells #[] 5) none)))
  have HO := Lib.hid (lit2 w (.cells #[.int .i64 (n : Int), .slice a l.length c] 31))
  have HUU := Lib.hid (HU.out.grown (gb_same (gb_alloc w (.cells #[.int .i64 (n : Int), .slice a l.length c] 31) none) (gb_alloc _ (.cells #[] 5) none)))
  have HGG := Lib.hid (gb_same (gb_alloc w (.cells #[.int .i64 (n : Int), .slice a l.length c] 31) none) (gb_alloc _ (.cells #[] 5) none))
  unfold rB PeekP
  clear hu hz
  obtain ⟨t0, t1⟩ := HB2.out
  by_cases h0 : z < 0
  · have e0 : z.toNat = 0 := by omega
    have hm : max z 0 = 0 := by omega
    rw [e0]
    clear e0
    go_enter Try.func22, Try.ntmps22
    go_wp2_with (at_builtin; refine app_bytesW rfl _ _ rfl w.heap.size _ _ [] (l.take 0) rfl rfl HO.out (RdW.take HUU.out.w (Nat.zero_le _)) (by simp; omega) (by simp) ?_; go_must (intro v4 w4 ho4 hg4 hf4; rw [List.nil_append] at ho4; have HO4 := Lib.hid ho4; have HG4 := Lib.hid (gb_trans HGG.out hg4 (fun k hk => .inr (HO.out.lt k hk).1)); clear ho4 hg4 hf4))
    go_ret
    exact ⟨_, rfl, HO4.out, HG4.out⟩
  · obtain ⟨m, hm⟩ : ∃ m : Nat, z = (m : Int) := ⟨z.toNat, by omega⟩
    subst hm
    have hmx : max (m : Int) 0 = (m : Int) := by omega
    rw [Int.toNat_natCast]
    by_cases h1 : l.length < m
    · have e1 : l.take m = l.take l.length := by rw [List.take_of_length_le (by omega), List.take_length]
      have h1' : (l.length : Int) < (m : Int) := by omega
      rw [e1]
      clear e1 h1
      go_enter Try.func22, Try.ntmps22
      go_wp2_with (at_builtin; refine app_bytesW rfl _ _ rfl w.heap.size _ _ [] (l.take l.length) rfl rfl HO.out (RdW.take HUU.out.w (Nat.le_refl _)) (by simp; omega) (by simp; omega) ?_; go_must (intro v4 w4 ho4 hg4 hf4; rw [List.nil_append] at ho4; have HO4 := Lib.hid ho4; have HG4 := Lib.hid (gb_trans HGG.out hg4 (fun k hk => .inr (HO.out.lt k hk).1)); clear ho4 hg4 hf4))
      go_ret
      exact ⟨_, rfl, by have h := HO4.out; rw [List.take_length] at h; exact h, HG4.out⟩
    · have h1' : ¬ (l.length : Int) < (m : Int) := by omega
      have hml : m ≤ l.length := by omega
      clear h1
      go_enter Try.func22, Try.ntmps22
      go_wp2_with (at_builtin; refine app_bytesW rfl _ _ rfl w.heap.size _ _ [] (l.take m) rfl rfl HO.out (RdW.take HUU.out.w hml) (by simp; omega) (by simp; omega) ?_; go_must (intro v4 w4 ho4 hg4 hf4; rw [List.nil_append] at ho4; have HO4 := Lib.hid ho4; have HG4 := Lib.hid (gb_trans HGG.out hg4 (fun k hk => .inr (HO.out.lt k hk).1)); clear ho4 hg4 hf4))
      go_ret
      exact ⟨_, rfl, HO4.out, HG4.out⟩
set_option maxRecDepth 100000 in
set_option maxHeartbeats 4000000 in
theorem rindexB_any (n : Nat) (u : Value) (l : List UInt8) (c : UInt8) (w : World) (hu : Rd w u l) : Calls Try.prog 25 #[rB n u, .int .u8 (c.toNat : Int)] w (NumG (idxI l c) w) := by
  obtain ⟨a, ca, rfl, hc, hcm⟩ := rd_form hu
  have HU := Lib.hid hu
  have HB := Lib.hid (row2 (heap_at_alloc w (.cells #[.int .i64 (n : Int), .slice a l.length ca] 31)))
  have HUU := Lib.hid (HU.out.grown (gb_alloc w (.cells #[.int .i64 (n : Int), .slice a l.length ca] 31) none))
  have HGG := Lib.hid (gb_alloc w (.cells #[.int .i64 (n : Int), .slice a l.length ca] 31) none)
  unfold rB
  clear hu
  obtain ⟨t0, t1⟩ := HB.out
  go_enter Try.func25, Try.ntmps25
  go_wp2
  go_loop [5] (fun i => ∃ k : Nat, k ≤ l.length ∧ i = .int .i64 k ∧ Hid (idxK l c k = none)) (fun i => l.length - (intOf i).toNat)
  case atStart => exact ⟨0, Nat.zero_le _, rfl, Lib.hid rfl⟩
  case round =>
    obtain ⟨k, hk, rfl, HI⟩ := hrel
    by_cases hlt : k < l.length
    · obtain ⟨x, hx⟩ : ∃ x, l[k]? = some x := ⟨l[k]'hlt, by simp⟩
      obtain ⟨bb, off, rfl, hcl⟩ := HUU.out.at hx
      have HX := Lib.hid hx
      clear hx
      by_cases hxc : x = c
      · subst hxc
        have HR : Hid (idxI l x = (k : Int)) := Lib.hid (by
          unfold idxI
          rw [idxK_some (k := k + 1) (i := k) (by rw [idxK, HI.out]; simp [HX.out]) l.length (by omega)])
        go_wp2
        go_ret
        exact ⟨by rw [HR.out]; rfl, HGG.out⟩
      · have hne : ((x.toNat : Int) == (c.toNat : Int)) = false := by
          rw [beq_eq_false_iff_ne]
          intro e
          exact hxc (UInt8.toNat_inj.1 (by omega))
        have HI2 : Hid (idxK l c (k + 1) = none) := Lib.hid (by rw [idxK, HI.out]; simp [HX.out, hxc])
        clear hxc
        go_wp2
        go_round
        case rel => exact ⟨k + 1, by omega, by go_num, HI2⟩
        case measure => simp [intOf]; omega
    · obtain rfl : k = l.length := by omega
      clear hlt
      have HR : Hid (idxI l c = -1) := Lib.hid (by unfold idxI; rw [HI.out])
      go_wp2
      go_ret
      exact ⟨by rw [HR.out]; rfl, HGG.out⟩
end Go.Proofs.Ytjidkaeglhfajaa
