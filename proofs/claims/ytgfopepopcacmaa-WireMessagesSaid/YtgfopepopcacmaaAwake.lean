/-
  ratoonlaw01.awake: the walk.
-/
import Derived.Test.YtgfopepopcacmaaRInt
namespace Go.Proofs.Ytgfopepopcacmaa
open Go.RowKit

theorem Own.lit (w : World) (cs : Array Value) (l : List UInt8) (n B : Nat) (hcs : cs.toList = bvs l) (hn : l.length = n) (hB : B ≤ w.heap.size) (hm : n ≤ maxLen) :
    Own (w.alloc (.cells cs 5)) B (.slice (some ⟨w.heap.size, 0, none⟩) n n) l := by
  have hs : cs.size = n * 1 := by rw [← Array.length_toList, hcs, bvs_length]; omega
  have := World.ownsRow_lit (e := 5) (size := 1) w cs n hB hm hs
  unfold Own
  rw [hcs] at this
  rw [hn]
  exact this
theorem Rd.lit (w : World) (cs : Array Value) (l : List UInt8) (n : Nat) (hcs : cs.toList = bvs l) (hn : l.length = n) (hm : n ≤ maxLen) :
    Rd (w.alloc (.cells cs 5)) (.slice (some ⟨w.heap.size, 0, none⟩) n n) l := (Own.lit w cs l n 0 hcs hn (Nat.zero_le _) hm).rd

theorem enc64 : enc 64 = [128, 1] := by decide
theorem enc_m1 : enc (-1) = [1] := by decide
theorem encS_ab : encS (⟨#[97, 98]⟩ : ByteArray).data.toList = [4, 97, 98] := by decide
theorem rdInt_128 : rdInt [128, 0] 0 = none := by decide

theorem same_g (a b : Value) (w : World) (l : List UInt8) (ha : Rd w a l) (hb : Rd w b l) :
    Calls Try.prog 32 #[a, b] w fun e w' => e = .returned (.bool true) ∧ w.grownBy w' none :=
  (same_true a b w l ha hb).mono fun _ _ ⟨h1, h2⟩ => ⟨h1, h2 ▸ gb_refl _ _⟩
theorem Rd.blk {w : World} {v : Value} {l : List UInt8} (h : Rd w v l) (hl : l ≠ []) : ∀ k, v.ownBlock = some k → k < w.heap.size := by
  intro k hk
  rcases h with ⟨rfl, _⟩ | ⟨b, off, cap, rfl, h1, h2, h3⟩
  · simp [Value.ownBlock] at hk
  · simp only [Value.ownBlock, Option.some.injEq] at hk
    subst hk
    cases l with
    | nil => exact absurd rfl hl
    | cons x xs => exact World.block_lt_of_cell? _ _ (h3 0 x rfl)

set_option maxRecDepth 100000 in
set_option maxHeartbeats 1000000 in
theorem awake_any (w : World) : Calls Try.prog 10 #[] w fun e w' => e = .returned (.bool true) ∧ w.grownBy w' none := by
  go_enter Try.func10, Try.ntmps10
  go_wp2_with fail
  refine (read_any _ [128, 0] _ (Rd.lit _ _ _ 2 rfl rfl (by decide)) (by simp)).mono ?_
  rintro e w1 ⟨b, sl, rfl, hb, hR, hg, hsl⟩
  have g1 : w.grownBy w1 none := gb_same (gb_alloc _ _ _) hg
  have hb1 : w.heap.size ≤ b := by simp at hb; omega
  clear hg hb hsl
  go_wp2_with fail
  refine (int_any (.slice none 0 0) 64 w1 0 [] (by omega) (by omega) (Own.nil _ _) (Nat.zero_le _) (by simp)).mono ?_
  rintro e w2 ⟨v2, rfl, ho2, hg2, hf2⟩
  have g2 : w.grownBy w2 none := gb_same g1 hg2
  have hR2 := hR.grown hg2
  obtain ⟨a2, c2, rfl⟩ := ho2.rd.len
  clear hR hg2 hf2 g1
  go_wp2_with fail
  refine (same_g _ _ _ [128, 1] (ho2.rd.grown (gb_alloc _ _ _)) (Rd.lit _ _ _ 2 rfl rfl (by decide))).mono ?_
  rintro e w3 ⟨rfl, hg3⟩
  have g3 : w.grownBy w3 none := gb_same (gb_same g2 (gb_alloc _ _ _)) hg3
  have hR3 := (hR2.grown (gb_alloc _ _ _)).grown hg3
  clear ho2 hR2 g2 hg3
  go_wp2_with fail
  refine (int_any _ (-1) _ 0 [7] (by omega) (by omega) (Own.lit _ _ [7] 1 _ rfl rfl (Nat.zero_le _) (by decide)) (Nat.zero_le _) (by simp)).mono ?_
  rintro e w4 ⟨v4, rfl, ho4, hg4, hf4⟩
  have g4 : w.grownBy w4 none := gb_new (gb_trans0 g3 (gb_alloc _ _ _)) hg4 g3.size
  have hR4 := (hR3.grown (gb_alloc _ _ _)).kept hg4 (by have := hR3.lt; simp [Value.ownBlock]; omega) (fun k hk => by have := Rd.blk hR3.rd (by simp) k hk; simp [Value.ownBlock]; omega)
  obtain ⟨a4, c4, rfl⟩ := ho4.rd.len
  clear hR3 g3 hg4 hf4
  go_wp2_with fail
  refine (same_g _ _ _ [7, 1] (ho4.rd.grown (gb_alloc _ _ _)) (Rd.lit _ _ _ 2 rfl rfl (by decide))).mono ?_
  rintro e w5 ⟨rfl, hg5⟩
  have g5 : w.grownBy w5 none := gb_same (gb_same g4 (gb_alloc _ _ _)) hg5
  have hR5 := (hR4.grown (gb_alloc _ _ _)).grown hg5
  clear ho4 hR4 g4 hg5
  go_wp2_with fail
  refine (string_any (.slice none 0 0) _ w5 0 [] (by decide) (Own.nil _ _) (Nat.zero_le _) (by simp)).mono ?_
  rintro e w6 ⟨v6, rfl, ho6, hg6, hf6⟩
  have g6 : w.grownBy w6 none := gb_same g5 hg6
  have hR6 := hR5.grown hg6
  obtain ⟨a6, c6, rfl⟩ := ho6.rd.len
  clear hR5 g5 hg6 hf6
  go_wp2_with fail
  refine (same_g _ _ _ [4, 97, 98] (ho6.rd.grown (gb_alloc _ _ _)) (Rd.lit _ _ _ 3 rfl rfl (by decide))).mono ?_
  rintro e w7 ⟨rfl, hg7⟩
  have g7 : w.grownBy w7 none := gb_same (gb_same g6 (gb_alloc _ _ _)) hg7
  have hR7 := (hR6.grown (gb_alloc _ _ _)).grown hg7
  clear ho6 hR6 g6 hg7
  go_wp2_with fail
  refine (rint_any _ _ _ _ _ hR7).mono ?_
  rw [rdInt_128]
  rintro e w8 ⟨rfl, hR8, hg8⟩
  have g8 : w.grownBy w8 none := gb_new g7 hg8 hb1
  have HE := Lib.hid (end_any _ _ _ _ _ _ hR8)
  clear hR7 g7 hg8
  go_wp2_with fail
  refine HE.out.mono ?_
  rintro e w9 ⟨rfl, n9, hw9⟩
  have g9 : w.grownBy w9 none := by rw [hw9]; exact gb_same g8 (gb_drewN _ _ _)
  clear hw9 HE hR8 g8
  have e4 : endOf true [128, 0] 0 = 4 := by decide
  rw [e4]
  go_wp2
  go_ret
  exact ⟨rfl, g9⟩
end Go.Proofs.Ytgfopepopcacmaa
