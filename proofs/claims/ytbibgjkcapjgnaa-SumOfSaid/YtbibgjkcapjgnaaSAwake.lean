/-
  law.awake: the walk.
-/
import Derived.Test.YtbibgjkcapjgnaaSRParse
namespace Go.Proofs.Ytbibgjkcapjgnaa
open Go.RowKit

theorem hex256 : hexL 256 = [48, 48, 48, 48, 48, 48, 48, 48, 48, 48, 48, 48, 48, 49, 48, 48] := by decide +kernel
theorem ans400 : ((0 : Int) == answer 4 0 0 []) = false := by decide +kernel


set_option maxRecDepth 100000 in
set_option maxHeartbeats 1000000 in
theorem awake_any (w : World) : Calls Try.prog 9 #[] w (BoolQ true w) := by
  have HF := Lib.hid (from_any 7 (.slice none 0 0) [] w (by omega) (.inl ⟨rfl, rfl⟩))
  have hD := fun W => digits_any 256 W (by omega)
  rw [hex256] at hD
  simp only [str] at hD
  have HD := Lib.hid hD
  have HA := Lib.hid (fun W => ranswer_any 4 0 0 (.slice none 0 0) [] W (.inl ⟨rfl, rfl⟩))
  have HR1 := Lib.hid (fun W => right_any 0 0 0 0 4 0 0 0 (.slice none 0 0) [] W (.inl ⟨rfl, rfl⟩))
  have HR2 := Lib.hid (fun W => right_any 0 0 0 0 4 0 0 (answer 4 0 0 []) (.slice none 0 0) [] W (.inl ⟨rfl, rfl⟩))
  have hx := ans400
  clear hD
  generalize answer 4 0 0 [] = x at *
  rw [hx] at HR1
  rw [beq_self_eq_true] at HR2
  go_enter Try.func9, Try.ntmps9
  go_wp2_with fail
  refine HF.out.mono ?_; rintro e w' ⟨rfl, rfl⟩
  go_wp2_with fail
  refine (HD.out _).mono ?_; rintro e w1 ⟨rfl, hg1⟩
  go_wp2_with fail
  refine (HR1.out _).mono ?_; rintro e w2 ⟨rfl, hg2⟩
  have g2 := gb_same hg1 hg2
  clear hg1 hg2
  go_wp2_with fail
  refine (HA.out _).mono ?_; rintro e w3 ⟨rfl, hg3⟩
  have g3 := gb_same g2 hg3
  clear g2 hg3
  go_wp2_with fail
  refine (HR2.out _).mono ?_; rintro e w4 ⟨rfl, hg4⟩
  have g4 := gb_same g3 hg4
  clear g3 hg4
  go_wp2
  go_ret
  exact ⟨rfl, g4⟩
end Go.Proofs.Ytbibgjkcapjgnaa
