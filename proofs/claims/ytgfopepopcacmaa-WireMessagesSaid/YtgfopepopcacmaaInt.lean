/-
  wire.Int: the walk.
-/
import Derived.Test.YtgfopepopcacmaaPure
namespace Go.Proofs.Ytgfopepopcacmaa
open Go.RowKit

def IntPost (w : World) (B : Nat) (v : Value) (l : List UInt8) (e : Ending) (w' : World) : Prop :=
  ∃ v', e = .returned v' ∧ Own w' B v' l ∧ w.grownBy w' v.ownBlock ∧ Fr w v v'

def IntInv (w : World) (B : Nat) (v : Value) (l : List UInt8) (U : Nat) (b u : Value) (wr : World) : Prop :=
  ∃ (k : Nat) (x : List UInt8), u = .int .u64 (k : Int) ∧ k ≤ U ∧ k < 18446744073709551616 ∧ Own wr B b x ∧ x ++ encU k = l ++ encU U ∧ w.grownBy wr v.ownBlock ∧ Fr w v b

set_option maxRecDepth 100000 in
set_option maxHeartbeats 400000 in
theorem int_any (v : Value) (n : Int) (w : World) (B : Nat) (l : List UInt8) (hn1 : -9223372036854775808 ≤ n) (hn2 : n ≤ 9223372036854775807) (hown : Own w B v l) (hB : B ≤ w.heap.size) (hl : l.length ≤ 1099511627776) :
    Calls Try.prog 20 #[v, .int .i64 n] w (IntPost w B v (l ++ enc n)) := by
  have hzz := zz_walk hn1 hn2
  have hzl := zz_lt hn1 hn2
  have hen : enc n = encU (zz n) := rfl
  rw [hen]
  generalize zz n = U at *
  clear hen
  go_enter Try.func20, Try.ntmps20
  go_wp2
  go_loopw [0, 5] (fun b u wr => IntInv w B v l U b u wr) (fun _ u _ => (intOf u).toNat)
  case atStart => exact ⟨U, l, rfl, Nat.le_refl _, hzl, hown, rfl, gb_refl _ _, Fr.refl _ _⟩
  case round =>
    obtain ⟨k, x, rfl, hku, hk, ho, hx, hg, hf⟩ := hrel
    have hxl : x.length + 1 ≤ l.length + 10 := by
      have h1 := congrArg List.length hx
      simp only [List.length_append] at h1
      have h2 := encU_len k
      have h3 := encU_len U
      omega
    have hB2 : B ≤ wr.heap.size := Nat.le_trans hB hg.size
    have H := Lib.hid hx
    have Hk := Lib.hid hk
    clear hx hzz hk hzl hn1 hn2
    by_cases hlt : k < 128
    · go_wp2_with (at_builtin; refine app_bytes rfl _ _ rfl B u0 _ x [UInt8.ofNat k] rfl rfl (ho.grown (gb_alloc _ _ _)) (Rd.litv _ _ _ _ (by first | exact bv_lo hlt | exact bv_lo' hlt)) (by simp; omega) (by simp; omega) ?_; intro v' w1 ho1 hg1 hf1)
      go_ret
      refine ⟨v', rfl, ?_, gb_fr (gb_trans0 hg (gb_alloc _ _ _)) (hf) hg1, hf.trans (by have := hg.size; simp; omega) hf1⟩
      rw [← H.out, encU_lo hlt]; exact ho1
    · go_wp2_with (at_builtin; refine app_bytes rfl _ _ rfl B u0 _ x [UInt8.ofNat (k % 128 + 128)] rfl rfl (ho.grown (gb_alloc _ _ _)) (Rd.litv _ _ _ _ bv_or) (by simp; omega) (by simp; omega) ?_; intro v' w1 ho1 hg1 hf1)
      refine ⟨⟨k / 128, x ++ [UInt8.ofNat (k % 128 + 128)], by go_num, by omega, by have := Hk.out; omega, ho1, ?_, gb_fr (gb_trans0 hg (gb_alloc _ _ _)) hf hg1, hf.trans (by have := hg.size; simp; omega) hf1⟩, by simp [intOf]; omega⟩
      rw [← H.out, encU_hi hlt Hk.out]
      simp
end Go.Proofs.Ytgfopepopcacmaa
