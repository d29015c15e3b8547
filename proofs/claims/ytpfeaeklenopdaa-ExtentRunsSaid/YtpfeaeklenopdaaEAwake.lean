/-
  law.awake: the walk.
-/
import Derived.Test.YtpfeaeklenopdaaETake
namespace Go.Proofs.Ytpfeaeklenopdaa
open Go.RowKit Go.Shelf

theorem aw_alloc : allocO [38] 0 8 2 = .ok (3, [62]) := by kernel_rfl
theorem aw_take : takeO [38] 0 8 2 = .ok ([0, 3], [47]) := by kernel_rfl
theorem RdL.lit2 (w : World) (x y : Value) (t : TypeId) : RdL (w.alloc (.cells #[x, y] t)) (.slice (some ⟨w.heap.size, 0, none⟩) 2 2) [x, y] :=
  .inr ⟨w.heap.size, 0, 2, rfl, Nat.le_refl _, by simp [maxLen], fun j z hj => by
    rw [World.cell?_alloc_at _ _ _ _ rfl]
    match j, hj with
    | 0, hj => simp at hj; subst hj; rfl
    | 1, hj => simp at hj; subst hj; rfl
    | j + 2, hj => simp at hj⟩
theorem RdL.ints2 (w : World) (x y : Int) (t : TypeId) : RdL (w.alloc (.cells #[.int .i64 x, .int .i64 y] t)) (.slice (some ⟨w.heap.size, 0, none⟩) 2 2) (ivs [x, y]) := RdL.lit2 w _ _ t
theorem beq_refl' (l : List UInt8) : (l == l) = true := by simp
set_option maxRecDepth 100000 in
set_option maxHeartbeats 1000000 in
theorem awake_any (w : World) : Calls Try.prog 11 #[] w (BoolQ true w) := by
  have hb : Rd (w.alloc (.cells #[.int .u8 38] 5)) (.slice (some ⟨w.heap.size, 0, none⟩) 1 1) [38] := Rd.litv w _ 38 _ rfl
  have ha := alloc_any _ [38] 0 8 2 _ hb (by simp) (by omega) (by omega)
  rw [aw_alloc] at ha
  have HA := Lib.hid ha
  have HT := Lib.hid (fun W (hg : (w.alloc (.cells #[.int .u8 38] 5)).grownBy W none) => take_any _ [38] 0 8 2 W (hb.grown hg) (by simp) (by omega))
  rw [aw_take] at HT
  have HG0 : Hid (w.grownBy (w.alloc (.cells #[.int .u8 38] 5)) none) := Lib.hid (gb_alloc _ _ _)
  clear hb ha
  go_enter Try.func11, Try.ntmps11
  go_wp2_with (first | (go_at_call 22; refine HA.out.mono ?_; go_must (rintro e w1 ⟨v1, rfl, ho1, hg1⟩; have HO1 := Lib.hid ho1; have HG1 := Lib.hid hg1; clear ho1 hg1)) | (go_at_call 24; refine (HT.out _ HG1.out).mono ?_; go_must (rintro e w2 ⟨lv, nv, rfl, hl2, hn2, hg2, _⟩; have HL2 : Hid (RdL w2 lv (ivs [0, 3])) := Lib.hid hl2.rd; have HN2 := Lib.hid hn2; have HG2 := Lib.hid hg2; clear hl2 hn2 hg2)))
  have HGA : Hid (w.grownBy w2 none) := Lib.hid (gb_same HG0.out (gb_same HG1.out HG2.out))
  refine (same_any v1 _ [62] [62] _ ((HO1.out.rd.grown HG2.out).grown (gb_alloc _ _ none)) (Rd.litv w2 _ 62 _ rfl)).mono ?_
  rintro e w' ⟨rfl, rfl⟩
  rw [beq_refl']
  go_wp2_with fail
  have hx1 := (HL2.out.grown (gb_alloc w2 (.cells #[.int .u8 62] 5) none)).grown (gb_alloc (w2.alloc (.cells #[.int .u8 62] 5)) (.cells #[.int .i64 0, .int .i64 3] 3) none)
  have hx2 := RdL.ints2 (w2.alloc (.cells #[.int .u8 62] 5)) 0 3 3
  rw [World.size_alloc] at hx2
  have HSI := Lib.hid (sameInts_true lv _ _ [0, 3] hx1 hx2 (by simp))
  clear hx1 hx2
  refine HSI.out.mono ?_
  rintro e w4 ⟨rfl, hg4⟩
  have HG4 : Hid (w2.grownBy w4 none) := Lib.hid (gb_same (gb_same (gb_alloc _ _ none) (gb_alloc _ _ none)) hg4)
  clear hg4
  go_wp2_with fail
  refine (same_any nv _ [47] [47] _ ((HN2.out.rd.grown HG4.out).grown (gb_alloc _ _ none)) (Rd.litv w4 _ 47 _ rfl)).mono ?_
  rintro e w' ⟨rfl, rfl⟩
  rw [beq_refl']
  go_wp2
  go_ret
  exact ⟨rfl, gb_same (gb_same HGA.out HG4.out) (gb_alloc _ _ none)⟩
end Go.Proofs.Ytpfeaeklenopdaa
